package asm_test

import (
	"math"
	"regexp"
	"slices"
	"strconv"
	"strings"

	"warrant/api"
)

// The chapter's table once more, written out form by form: what the package reads and writes is held against these.

// said is an instruction and its spelling by P3.2.
type said struct {
	text string
	ins  api.Ins
}

// operator is how an operation is written.
type operator struct {
	sign string
	op   int
}

func joinings() []operator {
	return []operator{
		{"+=", api.OpAdd}, {"-=", api.OpSub}, {"*=", api.OpMul}, {"/=", api.OpDiv}, {"%=", api.OpMod},
		{"s/=", api.OpSdiv}, {"s%=", api.OpSmod}, {"|=", api.OpOr}, {"&=", api.OpAnd}, {"^=", api.OpXor},
		{"<<=", api.OpLsh}, {">>=", api.OpRsh}, {"s>>=", api.OpArsh}, {"=", api.OpMov},
	}
}

func conditions() []operator {
	return []operator{
		{"==", api.OpJeq}, {"!=", api.OpJne}, {">", api.OpJgt}, {">=", api.OpJge}, {"<", api.OpJlt}, {"<=", api.OpJle},
		{"s>", api.OpJsgt}, {"s>=", api.OpJsge}, {"s<", api.OpJslt}, {"s<=", api.OpJsle}, {"&", api.OpJset},
	}
}

var (
	written   = []int{0, 1, 9}
	read      = []int{0, 4, 10}
	immediate = []number{{-1 << 31, "-2147483648"}, {-1, "-1"}, {0, "0"}, {7, "7"}, {1<<31 - 1, "2147483647"}}
	divisor   = []number{{-1 << 31, "-2147483648"}, {-1, "-1"}, {1, "1"}, {1<<31 - 1, "2147483647"}}
	to63      = []number{{0, "0"}, {63, "63"}}
	to31      = []number{{0, "0"}, {31, "31"}}
	positive  = []number{{0, "0"}, {1<<31 - 1, "2147483647"}}
	anyNumber = []number{{math.MinInt, "-9223372036854775808"}, {0, "0"}, {1 << 32, "4294967296"}, {math.MaxInt, "9223372036854775807"}}
	added     = []number{{-32768, " - 32768"}, {-8, " - 8"}, {0, ""}, {1, " + 1"}, {32767, " + 32767"}}
	near      = []number{{-32768, "-32768"}, {-1, "-1"}, {0, "+0"}, {1, "+1"}, {32767, "+32767"}}
	far       = []number{{-1 << 31, "-2147483648"}, {-1, "-1"}, {0, "+0"}, {1, "+1"}, {1<<31 - 1, "+2147483647"}}
)

// number is one and its spelling.
type number struct {
	v    int
	text string
}

// everything is each form of instruction with the least and the greatest of each number that it holds.
func everything() []said {
	return slices.Concat(arithmetic(), turned(), constants(), memory(), atomic(), jumping())
}

func name(letter string, n int) string { return letter + strconv.Itoa(n) }

func imms(op int, narrow bool) []number {
	switch op {
	case api.OpDiv, api.OpMod, api.OpSdiv, api.OpSmod:
		return divisor
	case api.OpLsh, api.OpRsh, api.OpArsh:
		if narrow {
			return to31
		}
		return to63
	}
	return immediate
}

func arithmetic() []said {
	var l []said
	for _, o := range joinings() {
		for _, d := range written {
			for _, s := range read {
				l = append(l,
					said{name("r", d) + " " + o.sign + " " + name("r", s), api.Ins{Op: o.op, Reg: true, Dst: d, Src: s}},
					said{name("w", d) + " " + o.sign + " " + name("w", s), api.Ins{Op: o.op, Narrow: true, Reg: true, Dst: d, Src: s}})
			}
			for _, n := range imms(o.op, false) {
				l = append(l, said{name("r", d) + " " + o.sign + " " + n.text, api.Ins{Op: o.op, Dst: d, Imm: n.v}})
			}
			for _, n := range imms(o.op, true) {
				l = append(l, said{name("w", d) + " " + o.sign + " " + n.text, api.Ins{Op: o.op, Narrow: true, Dst: d, Imm: n.v}})
			}
		}
	}
	return l
}

func turned() []said {
	var l []said
	for _, d := range written {
		r, w := name("r", d), name("w", d)
		l = append(l,
			said{r + " = -" + r, api.Ins{Op: api.OpNeg, Dst: d}},
			said{w + " = -" + w, api.Ins{Op: api.OpNeg, Narrow: true, Dst: d}},
			said{r + " = le16 " + r, api.Ins{Op: api.OpLe, Size: 16, Dst: d}},
			said{r + " = le32 " + r, api.Ins{Op: api.OpLe, Size: 32, Dst: d}},
			said{r + " = le64 " + r, api.Ins{Op: api.OpLe, Size: 64, Dst: d}},
			said{r + " = be16 " + r, api.Ins{Op: api.OpBe, Size: 16, Dst: d}},
			said{r + " = be32 " + r, api.Ins{Op: api.OpBe, Size: 32, Dst: d}},
			said{r + " = be64 " + r, api.Ins{Op: api.OpBe, Size: 64, Dst: d}},
			said{r + " = swap16 " + r, api.Ins{Op: api.OpBswap, Size: 16, Dst: d}},
			said{r + " = swap32 " + r, api.Ins{Op: api.OpBswap, Size: 32, Dst: d}},
			said{r + " = swap64 " + r, api.Ins{Op: api.OpBswap, Size: 64, Dst: d}})
		for _, s := range read {
			l = append(l,
				said{r + " = s8 " + name("r", s), api.Ins{Op: api.OpMovs, Reg: true, Size: 8, Dst: d, Src: s}},
				said{r + " = s16 " + name("r", s), api.Ins{Op: api.OpMovs, Reg: true, Size: 16, Dst: d, Src: s}},
				said{r + " = s32 " + name("r", s), api.Ins{Op: api.OpMovs, Reg: true, Size: 32, Dst: d, Src: s}},
				said{w + " = s8 " + name("w", s), api.Ins{Op: api.OpMovs, Narrow: true, Reg: true, Size: 8, Dst: d, Src: s}},
				said{w + " = s16 " + name("w", s), api.Ins{Op: api.OpMovs, Narrow: true, Reg: true, Size: 16, Dst: d, Src: s}})
		}
	}
	return l
}

func constants() []said {
	var l []said
	for _, d := range written {
		for _, n := range anyNumber {
			l = append(l, said{name("r", d) + " = wide " + n.text, api.Ins{Op: api.OpWide, Dst: d, Imm: n.v}})
		}
		for _, n := range positive {
			l = append(l, said{name("r", d) + " = data " + n.text, api.Ins{Op: api.OpData, Dst: d, Imm: n.v}})
		}
	}
	return l
}

func memory() []said {
	var l []said
	for _, off := range added {
		for _, base := range read {
			place := "[" + name("r", base) + off.text + "]"
			for _, size := range []number{{1, "8"}, {2, "16"}, {4, "32"}, {8, "64"}} {
				for _, d := range written {
					l = append(l, said{name("r", d) + " = u" + size.text + " " + place, api.Ins{Op: api.OpLoad, Size: size.v, Dst: d, Src: base, Off: off.v}})
					if size.v != 8 {
						l = append(l, said{name("r", d) + " = s" + size.text + " " + place, api.Ins{Op: api.OpLoads, Size: size.v, Dst: d, Src: base, Off: off.v}})
					}
				}
				for _, s := range read {
					l = append(l, said{"u" + size.text + " " + place + " = " + name("r", s), api.Ins{Op: api.OpStore, Size: size.v, Reg: true, Dst: base, Src: s, Off: off.v}})
				}
				for _, n := range immediate {
					l = append(l, said{"u" + size.text + " " + place + " = " + n.text, api.Ins{Op: api.OpStore, Size: size.v, Dst: base, Off: off.v, Imm: n.v}})
				}
			}
		}
	}
	return l
}

func atomic() []said {
	var l []said
	for _, off := range added {
		for _, base := range read {
			for _, size := range []number{{4, "32"}, {8, "64"}} {
				lock := "lock u" + size.text + " [" + name("r", base) + off.text + "] "
				i := api.Ins{Op: api.OpAtom, Size: size.v, Dst: base, Off: off.v}
				for _, a := range []number{{0x00, "+= "}, {0x40, "|= "}, {0x50, "&= "}, {0xa0, "^= "}} {
					for _, s := range read {
						i.Src, i.Imm = s, a.v
						l = append(l, said{lock + a.text + name("r", s), i})
					}
					for _, s := range written {
						i.Src, i.Imm = s, a.v+1
						l = append(l, said{name("r", s) + " = " + lock + a.text + name("r", s), i})
					}
				}
				for _, s := range written {
					i.Src, i.Imm = s, 0xe1
					l = append(l, said{name("r", s) + " = " + lock + "= " + name("r", s), i})
				}
				for _, s := range read {
					i.Src, i.Imm = s, 0xf1
					l = append(l, said{lock + "= " + name("r", s) + " if r0", i})
				}
			}
		}
	}
	return l
}

func jumping() []said {
	l := []said{{"exit", api.Ins{Op: api.OpExit}}}
	for _, n := range immediate {
		l = append(l, said{"call " + n.text, api.Ins{Op: api.OpCall, Imm: n.v}})
	}
	for _, n := range far {
		l = append(l, said{"goto far " + n.text, api.Ins{Op: api.OpJa, Narrow: true, Imm: n.v}})
	}
	for _, off := range near {
		l = append(l, said{"goto " + off.text, api.Ins{Op: api.OpJa, Off: off.v}})
		for _, c := range conditions() {
			for _, d := range read {
				r, w, to := "if "+name("r", d)+" "+c.sign+" ", "if "+name("w", d)+" "+c.sign+" ", " goto "+off.text
				for _, s := range read {
					l = append(l,
						said{r + name("r", s) + to, api.Ins{Op: c.op, Reg: true, Dst: d, Src: s, Off: off.v}},
						said{w + name("w", s) + to, api.Ins{Op: c.op, Narrow: true, Reg: true, Dst: d, Src: s, Off: off.v}})
				}
				for _, n := range immediate {
					l = append(l,
						said{r + n.text + to, api.Ins{Op: c.op, Dst: d, Off: off.v, Imm: n.v}},
						said{w + n.text + to, api.Ins{Op: c.op, Narrow: true, Dst: d, Off: off.v, Imm: n.v}})
				}
			}
		}
	}
	return l
}

// The tokens and the forms as expressions: a line's form is told by these alone, without what the package does.

var aToken = regexp.MustCompile(`[A-Za-z_][A-Za-z0-9_]*|[0-9][A-Za-z0-9_]*|<<=|>>=|[-+*/%|&^=!<>]=|<<|>>|[-+\[\]:=&<>]`)

// split are the tokens of a line that holds nothing else but blanks.
func split(line string) []string { return aToken.FindAllString(line, -1) }

// twice is a form once for each register, that stands in it as X in two places.
func twice(form string) string {
	var l []string
	for d := range 11 {
		l = append(l, strings.ReplaceAll(form, "X", strconv.Itoa(d)))
	}
	return "(" + strings.Join(l, "|") + ")"
}

// aForm are all forms of instructions, of tokens with a blank between.
var aForm = func() *regexp.Regexp {
	const (
		num   = `(- )?[0-9][0-9a-fx]*`
		reg   = `r([0-9]|10)`
		half  = `w([0-9]|10)`
		place = `\[ ` + reg + `( [-+] [0-9][0-9a-fx]*)? \]`
		join  = `(\+=|-=|\*=|(s )?/=|(s )?%=|\|=|&=|\^=|<<=|(s )?>>=|=)`
		cond  = `(==|!=|(s )?(>|>=|<|<=)|&)`
		to    = `goto ([A-Za-z_][A-Za-z0-9_]*|[-+] [0-9][0-9a-fx]*)`
		atom  = `(\+=|\|=|&=|\^=)`
	)
	forms := []string{
		reg + " " + join + " (" + reg + "|" + num + ")",
		half + " " + join + " (" + half + "|" + num + ")",
		twice("rX = - rX"), twice("wX = - wX"),
		reg + " = s(8|16|32) " + reg, half + " = s(8|16) " + half,
		twice("rX = (le|be|swap)(16|32|64) rX"),
		reg + " = (wide|data) " + num,
		reg + " = (u(8|16|32|64)|s(8|16|32)) " + place,
		"u(8|16|32|64) " + place + " = (" + reg + "|" + num + ")",
		"lock u(32|64) " + place + " " + atom + " " + reg,
		twice("rX = lock u(32|64) " + place + " (" + atom + "|=) rX"),
		"lock u(32|64) " + place + " = " + reg + " if r0",
		to, "goto far" + strings.TrimPrefix(to, "goto"),
		"if " + reg + " " + cond + " (" + reg + "|" + num + ") " + to,
		"if " + half + " " + cond + " (" + half + "|" + num + ") " + to,
		"call " + num, "exit",
	}
	return regexp.MustCompile(`^([A-Za-z_][A-Za-z0-9_]* : )*((` + strings.Join(forms, "|") + `) )?$`)
}()

// formed tells whether tokens have the form of a line.
func formed(tokens []string) bool {
	line := ""
	for _, t := range tokens {
		line += t + " "
	}
	return aForm.MatchString(line)
}

// printed is P3.3 of a list that is right, instruction by instruction.
func printed(l []api.Ins) string {
	unit, begun, at := 0, map[int]int{}, map[int]int{}
	for n, i := range l {
		begun[n], at[unit] = unit, n
		unit++
		if i.Op == api.OpWide || i.Op == api.OpData {
			unit++
		}
	}
	led := map[int]bool{}
	goal := func(n int) int {
		to, is := -1, false
		switch i := l[n]; {
		case i.Op == api.OpJa && i.Narrow:
			to, is = at[begun[n]+1+i.Imm]
		case i.Op >= api.OpJa && i.Op <= api.OpJset:
			to, is = at[begun[n]+1+i.Off]
		}
		if !is {
			return -1
		}
		return to
	}
	for n := range l {
		led[goal(n)] = true
	}
	names := map[int]string{}
	for n := range l {
		if led[n] {
			names[n] = "L" + strconv.Itoa(len(names))
		}
	}
	var text strings.Builder
	for n, i := range l {
		if led[n] {
			text.WriteString(names[n] + ":\n")
		}
		line := spelling(i)
		if to := goal(n); to >= 0 {
			line = line[:strings.LastIndexByte(line, ' ')+1] + names[to]
		}
		text.WriteString(line + "\n")
	}
	return text.String()
}
