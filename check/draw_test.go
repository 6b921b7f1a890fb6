package check_test

import (
	"fmt"
	"math/rand"
	"slices"
	"strings"
	"testing"

	"warrant/api"
	"warrant/flow"
	"warrant/shape"
)

// dice draws programs and warrants.
type dice struct{ *rand.Rand }

func rolling(seed int) dice { return dice{rand.New(rand.NewSource(int64(seed)))} }

func (d dice) one(of int) bool { return d.Intn(of) == 0 }

func among[T any](d dice, l ...T) T { return l[d.Intn(len(l))] }

// draft is a program's text on its way: r6 is the context, r7 its length, r0 and r3 to r5 are numbers, r8 and r9 count.
type draft struct {
	dice
	lines       []string
	labels      int
	loops, deep int
}

func (f *draft) say(text string, more ...any) { f.lines = append(f.lines, fmt.Sprintf(text, more...)) }

func (f *draft) label() string {
	f.labels++
	return fmt.Sprint("l", f.labels)
}

// num is a register that holds a number.
func (f *draft) num() string { return among(f.dice, "r0", "r3", "r4", "r5") }

func (f *draft) second() string {
	if f.one(2) {
		return f.num()
	}
	return fmt.Sprint(among(f.dice, 0, 1, 2, 7, 100, -1, -9, f.Intn(1<<20)))
}

// renew gives the registers that a call takes away.
func (f *draft) renew() { f.say("r3 = %d\nr4 = r7\nr5 = 3", f.Intn(9)) }

func (f *draft) reckon() {
	n := f.num()
	switch f.Intn(7) {
	case 0:
		f.say("%s = %s", n, f.second())
	case 1:
		f.say("%s &= %d", n, among(f.dice, 1, 7, 255))
	case 2:
		f.say("%s %%= %d", n, among(f.dice, 1, 7, 100))
	case 3:
		f.say("w%s %s %s", n[1:], among(f.dice, "+=", "-=", "=", "|=", "*="), strings.Replace(f.second(), "r", "w", 1))
	case 4:
		f.say("%s >>= %d", n, f.Intn(64))
	default:
		f.say("%s %s %s", n, among(f.dice, "+=", "-=", "*=", "|=", "^=", "s>>="), among(f.dice, "1", "3", f.num()))
	}
}

// memory reads or writes: the context where it was asked for its length, the stack, a row, a piece by a helper.
func (f *draft) memory() {
	size, skip := among(f.dice, 1, 2, 4, 8), f.label()
	kind := fmt.Sprint("u", size*8)
	switch f.Intn(8) {
	case 0:
		at := f.Intn(12)
		f.say("if r7 < %d goto %s\n%s = %s [r6 + %d]\n%s:", at+size-f.Intn(40)/39, skip, f.num(), kind, at, skip)
	case 1:
		f.say("r1 = r6\nr1 += %d\nr2 = r7\nr2 -= %d\nif r2 s< 0 goto %s\n%s [r1] = %s\n%s:", 3, 3+size, skip, kind, f.second(), skip)
	case 2:
		f.say("%s = %s", fmt.Sprintf("%s [r10 - %d]", kind, 8+f.Intn(5)*8), f.second())
	case 3:
		f.say("%s = %s [r10 - %d]", f.num(), kind, 8+f.Intn(25)/24*8)
	case 4:
		f.say("u64 [r10 - 48] = %s\nr1 = u64 [r10 - 48]", among(f.dice, "r6", "r10", "r7", f.num()))
	case 5:
		f.say("r1 = %d\nr2 = %s\ncall 7\nif r0 == 0 goto %s\nu16 [r0 + %d] = %d\n%s: r0 = 1", f.Intn(2), among(f.dice, "0", "3", f.num()), skip, f.Intn(2), f.Intn(9), skip)
		f.renew()
	case 6:
		f.say("r1 = r10\nr1 += -16\nr2 = %d\nr3 = 5\ncall %d", f.Intn(16), among(f.dice, 1, 5))
		f.renew()
	case 7:
		f.say("r1 = %s\ncall 6", f.num())
		f.renew()
	}
}

func (f *draft) choice() {
	other, end := f.label(), f.label()
	f.say("if %s %s %s goto %s", f.num(), among(f.dice, "==", "!=", "<", ">=", "s<", "s>", "&"), f.second(), other)
	f.body()
	f.say("goto %s\n%s:", end, other)
	f.body()
	f.say("%s:", end)
}

// loop goes round with a counter of its own, or till something happens.
func (f *draft) loop() {
	if f.deep == 2 || f.loops == 4 {
		return
	}
	counter, top, out := []string{"r8", "r9"}[f.deep], f.label(), f.label()
	f.loops++
	f.deep++
	switch f.Intn(4) {
	case 0:
		f.say("%s = 0\n%s: if %s >= %s goto %s", counter, top, counter, among(f.dice, "r7", "9", "2"), out)
		f.body()
		f.say("%s += 1\ngoto %s\n%s:", counter, top, out)
	case 1:
		f.say("%s = %d\n%s:", counter, 1+f.Intn(9), top)
		f.body()
		f.say("%s -= 1\nif %s s> 0 goto %s", counter, counter, top)
	case 2:
		f.say("%s:", top)
		f.body()
		f.say("if %s %s %s goto %s\ngoto %s\n%s:", f.num(), among(f.dice, "==", ">", "s<"), f.second(), out, top, out)
	case 3: // through the context, byte by byte
		f.say("%s = 0\n%s: r2 = r6\nr2 += %s\nif %s >= r7 goto %s\nr4 = u8 [r2]\nr0 += r4", counter, top, counter, counter, out)
		f.body()
		f.say("%s += 1\ngoto %s\n%s:", counter, top, out)
	}
	f.deep--
}

func (f *draft) body() {
	for range f.Intn(3) {
		switch f.Intn(9) {
		case 0:
			f.loop()
		case 1:
			f.choice()
		case 2, 3, 4, 5:
			f.memory()
		default:
			f.reckon()
		}
	}
}

// program is one that is safe, most often.
func (d dice) program(t *testing.T) api.Program {
	t.Helper()
	f := &draft{dice: d}
	f.say("r6 = r1\nr7 = r2\nr0 = 0\nr3 = 1\nr4 = 2\nr5 = 3\nr8 = 0\nr9 = 0\nu64 [r10 - 8] = 4\nu64 [r10 - 16] = r2")
	if d.one(20) {
		f.lines = f.lines[:0]
	}
	for range 2 + d.Intn(3) {
		f.body()
		if d.one(2) {
			f.loop()
		}
	}
	if d.one(3) {
		f.say("r4 = 3\nif r4 %s goto never\nr5 = 1\nnever:", among(d, "== 5", "== 5", "== 5", "== 3"))
	}
	f.say("r0 = 7\nexit")
	p := coded(t, strings.Join(f.lines, "\n"))
	p.Lo = among(d, 0, 0, 0, 3)
	p.Hi = p.Lo + among(d, 0, 4, 20, 60)
	p.Tables = []api.Table{{Rows: 4, Wide: 8}, {Rows: 1, Wide: 4}}
	return p
}

// ranks name, for each loop, two variables: most often such as move.
func (d dice) ranks(f *flow.Flow) []api.Loop {
	var l []api.Loop
	for _, loop := range f.Loops() {
		v := func() int {
			return among(d, 0, 1, r0, r1, r7, r7+1, r7+1, r7+2, r7+2, slot31, slot31-1, slot31-5, d.Intn(44))
		}
		r := rank(loop.Head, v(), v(), d.Intn(9)-4, 1+d.Intn(3))
		for r.B == r.A {
			r.B = d.Intn(44)
		}
		l = append(l, r)
	}
	return l
}

// grown is a warrant that is found by going over the program till nothing changes any more; what keeps moving is given up. (What traps on the way leads nowhere.)
func (d dice) grown(t *testing.T, p api.Program) pair {
	t.Helper()
	f, at, e := flow.Make(p.Code)
	if e != api.OK {
		t.Fatalf("%v at %d of\n%s", e, at, pair{p: p}.told())
	}
	start, _ := shape.Start(p)
	o := &twin{pair{p, api.Deed{Loops: d.ranks(f), Claims: slices.Repeat([]api.Claim{dead()}, len(f.Blocks()))}}, f.Blocks(), f.Loops(), nil}
	o.d.Claims[0] = start.Claim()
	for round := range 40 {
		calm := true
		for _, k := range f.Order() {
			o.shapes = map[int]*shape.Shape{}
			for edge, goal := range o.blocks[k].Next {
				s := o.post(k, edge)
				if lies(s, o.claim(goal), o.gone(goal)) {
					continue
				}
				o.d.Claims[goal] = o.wider(goal, s, round)
				calm = false
			}
		}
		if calm {
			break
		}
	}
	return o.pair
}

// wider is the claim of a block in which a shape has its place too.
func (o *twin) wider(k int, s *shape.Shape, round int) api.Claim {
	was := o.claim(k)
	now := was.Both(s)
	if round > 3 && !was.Dead() {
		now = was.Wider(s)
	}
	c, gone := now.Claim(), o.gone(k)
	c.Cons = slices.DeleteFunc(c.Cons, func(c api.Con) bool {
		return round > 30 || c.C < -api.MaxConst || c.C > api.MaxConst || slices.Contains(gone, c.I) || slices.Contains(gone, c.J)
	})
	return c
}

// number is one that a bound often has.
func (d dice) number() int {
	return among(d, 0, 0, 1, -1, d.Intn(20)-10, d.Intn(200)-100, api.MaxConst, -api.MaxConst)
}

// turned is a pair in which something is another way.
func (d dice) turned(c pair) pair {
	c = c.copied()
	k := d.Intn(len(c.d.Claims))
	claim := &c.d.Claims[k]
	switch d.Intn(16) {
	case 0, 1, 2, 3: // a few bounds fewer: it may be proven yet
		for range min(len(claim.Cons), 1+d.Intn(30)) {
			n := d.Intn(len(claim.Cons))
			claim.Cons = slices.Delete(claim.Cons, n, n+1)
		}
	case 4:
		if len(claim.Cons) > 0 {
			claim.Cons[d.Intn(len(claim.Cons))].C += among(d, 1, 1, -1, 7)
		}
	case 5:
		claim.Cons = append(claim.Cons, con(d.Intn(60), d.Intn(60), d.number()))
	case 6: // what is said of a register or slot is left out, with its bounds
		d.without(claim, r0+d.Intn(42))
	case 7:
		for v := r0; v <= slot31; v++ {
			if d.one(3) {
				d.without(claim, v)
			}
		}
	case 8:
		claim.Stack[among(d, 31, 30, 29, 26)] = among(d, mask(255), mask(15), mask(d.Intn(256)), num(), row(0))
	case 9:
		claim.Regs[d.Intn(10)] = among(d, num(), ctx(), maybe(0), row(1), mask(0))
	case 10:
		*claim = dead()
	case 11:
		other := &c.d.Claims[d.Intn(len(c.d.Claims))]
		*claim, *other = *other, *claim
	case 12:
		if len(c.d.Loops) > 0 {
			l := &c.d.Loops[d.Intn(len(c.d.Loops))]
			l.A = among(d, 0, 1, d.Intn(44), d.Intn(50))
			l.B = among(d, l.B, l.B, d.Intn(44))
		}
	case 13:
		i := &c.p.Code[d.Intn(len(c.p.Code))]
		field := among(d, &i.Imm, &i.Dst, &i.Src, &i.Off, &i.Size)
		*field += among(d, 1, -1, 2, 8)
	case 14:
		i := &c.p.Code[d.Intn(len(c.p.Code))]
		*i = among(d, api.Ins{Op: api.OpMov, Dst: i.Dst % 10, Imm: 5}, api.Ins{Op: api.OpExit}, api.Ins{Op: api.OpJa}, api.Ins{Op: api.OpMov, Reg: true, Src: 1}, api.Ins{Op: api.OpCall, Imm: 8})
	case 15:
		if d.one(2) {
			c.p.Hi += among(d, 1, -1, 30)
		} else {
			c.p.Lo = max(0, c.p.Lo+among(d, 1, -1))
		}
	}
	return c
}

// without leaves out what a claim says of a variable.
func (d dice) without(c *api.Claim, v int) {
	if v < slot0 {
		c.Regs[v-r0] = api.Tag{}
	} else {
		c.Stack[v-slot0] = api.Tag{}
	}
	c.Cons = slices.DeleteFunc(c.Cons, func(c api.Con) bool { return c.I == v || c.J == v })
}
