package asm_test

import (
	"math"
	"slices"
	"strings"
	"testing"

	"warrant/api"
	"warrant/asm"
	"warrant/code"
)

func wantParse(t *testing.T, text string, want []api.Ins) {
	t.Helper()
	if l, line, e := asm.Parse(text); !slices.Equal(l, want) || line != 0 || e != api.OK {
		t.Errorf("Parse(%s) = %s, %d, %v; want %s", short(text), few(l), line, e, few(want))
	}
}

func wantRefused(t *testing.T, text string, line int, e api.Errno) {
	t.Helper()
	if l, n, f := asm.Parse(text); len(l) != 0 || n != line || f != e {
		t.Errorf("Parse(%s) = %s, %d, %v; want %d, %v", short(text), few(l), n, f, line, e)
	}
}

func wantPrint(t *testing.T, l []api.Ins, want string) {
	t.Helper()
	if text, at, e := asm.Print(l); text != want || at != 0 || e != api.OK {
		t.Errorf("Print(%s) = %s, %d, %v; want %s", few(l), short(text), at, e, short(want))
	}
}

func wantUnprinted(t *testing.T, l []api.Ins, at int, e api.Errno) {
	t.Helper()
	if text, n, f := asm.Print(l); text != "" || n != at || f != e {
		t.Errorf("Print(%s) = %s, %d, %v; want %d, %v", few(l), short(text), n, f, at, e)
	}
}

func wantLine(t *testing.T, i api.Ins, want string, e api.Errno) {
	t.Helper()
	if text, f := asm.Line(i); text != want || f != e {
		t.Errorf("Line(%+v) = %q, %v; want %q, %v", i, text, f, want, e)
	}
}

// lines are a text of these lines.
func lines(l ...string) string { return strings.Join(l, "\n") + "\n" }

// times is a line so many times.
func times(line string, n int) string { return strings.Repeat(line+"\n", n) }

// TestExamples: every row of the chapter's section Examples.
func TestExamples(t *testing.T) {
	wantParse(t, "r1 = 5", []api.Ins{{Op: api.OpMov, Dst: 1, Imm: 5}})
	wantParse(t, "w2 += w3", []api.Ins{{Op: api.OpAdd, Narrow: true, Reg: true, Dst: 2, Src: 3}})
	wantParse(t, "r4 s>>= 63", []api.Ins{{Op: api.OpArsh, Dst: 4, Imm: 63}})
	wantRefused(t, "w4 >>= 32", 1, api.ErrRange)

	wantParse(t, "r3=u16[r1+4];x", []api.Ins{{Op: api.OpLoad, Size: 2, Dst: 3, Src: 1, Off: 4}})
	wantParse(t, "u64 [r10 - 8] = -1", []api.Ins{{Op: api.OpStore, Size: 8, Dst: 10, Off: -8, Imm: -1}})
	wantParse(t, "r2 = lock u32 [r1] += r2", []api.Ins{{Op: api.OpAtom, Size: 4, Dst: 1, Src: 2, Imm: api.AtomFetch}})
	wantParse(t, "lock u64 [r1] = r2 if r0", []api.Ins{{Op: api.OpAtom, Size: 8, Dst: 1, Src: 2, Imm: api.AtomCmpx}})

	wantParse(t, "a: if r1 s< -3 goto b\ngoto a\nb: exit", []api.Ins{{Op: api.OpJslt, Dst: 1, Imm: -3, Off: 1}, {Op: api.OpJa, Off: -2}, {Op: api.OpExit}})
	wantParse(t, "goto far x\nr1 = wide 1\nx:", []api.Ins{{Op: api.OpJa, Narrow: true, Imm: 2}, {Op: api.OpWide, Dst: 1, Imm: 1}})

	wantRefused(t, "goto x", 1, api.ErrLabel)
	wantRefused(t, "x:\nx: exit", 2, api.ErrTwice)
	wantRefused(t, "r1 + 5", 1, api.ErrLine)
	wantRefused(t, "r11 = 1", 1, api.ErrLine)
	wantRefused(t, "r10 = 1", 1, api.ErrRange)
	wantRefused(t, "r1 = 99999999999", 1, api.ErrRange)
	wantRefused(t, "r1 = 0x", 1, api.ErrWord)
	wantRefused(t, "r1 ! 2", 1, api.ErrWord)

	wantPrint(t, []api.Ins{{Op: api.OpJa}, {Op: api.OpExit}}, "goto L0\nL0:\nexit\n")
	wantPrint(t, []api.Ins{{Op: api.OpJa, Off: 7}, {Op: api.OpExit}}, "goto +7\nexit\n")

	wantLine(t, api.Ins{Op: api.OpStore, Size: 1, Dst: 10, Off: -8, Reg: true, Src: 2}, "u8 [r10 - 8] = r2", api.OK)
	wantLine(t, api.Ins{Op: api.OpNeg, Narrow: true, Dst: 3}, "w3 = -w3", api.OK)
	wantLine(t, api.Ins{}, "", api.ErrOp)

	wantParse(t, "", nil)
	wantParse(t, "; a comment alone", nil)
}

// TestForms (P3.1, P3.2): every form of instruction, with the least and the greatest of each number, written and read: in its spelling, with other blanks, with as few as can be, and in hexadecimal digits.
func TestForms(t *testing.T) {
	for _, s := range everything() {
		if again := spelling(s.ins); again != s.text {
			t.Fatalf("the tests tell two spellings of %+v: %q, %q", s.ins, s.text, again)
		}
		wantLine(t, s.ins, s.text, api.OK)
		want := []api.Ins{s.ins}
		wantParse(t, s.text, want)
		l := split(s.text)
		wantParse(t, strings.Join(l, " "), want)
		wantParse(t, "\t \r"+strings.Join(l, "\r\t  ")+"\t\r", want)
		wantParse(t, close(l), want)
		wantParse(t, close(hexadecimal(l)), want)
	}
}

// TestForeignForms (P3.1): what is next to a form and is none.
func TestForeignForms(t *testing.T) {
	for _, text := range []string{
		"r1", "5", "-", "r1 =", "= 5", "r1 = = 5", "r1 5", "r1 : = 5", "r1 = 5 6", "r1 = 5 r2 = 6", "r1 = 5 exit", "exit exit", "exit a:", "a", "a b:", ": exit", "a:: exit", "5: exit",
		"r11 = 1", "r01 = 1", "r00 = 1", "r = 1", "R1 = 1", "w11 = 1", "W1 = 1", "r1_ = 1", "r100 = 1", "x1 = 1", "r1 = r11", "r1 = R2", "r1 = x2",
		"r1 = w2", "w1 = r2", "r1 += w2", "w1 += r2", "w1 = - r1", "r1 = - w1", "r1 = -r2", "w1 = -w2", "r1 = - -r1", "r1 = +r1",
		"r1 = +5", "r1 = --5", "r1 = -+5", "r1 + = 5", "r1 - = 5", "r1 = 5 -", "r1 =+ 5",
		"r1 s += 2", "r1 s-= 2", "r1 s*= 2", "r1 s|= 2", "r1 s<<= 2", "r1 s = 2", "r1 s == 2", "r1 s s>>= 2", "r1 S>>= 2", "r1s>>=2", "r1 s 2", "s r1 >>= 2", "r1 s>>=s 2", "r1 u>>= 2",
		"r1 << 2", "r1 >> 2", "r1 == 2", "r1 != 2", "r1 < 2", "r1 <= 2", "r1 >= 2", "r1 & 2", "r1 < <= 2", "r1 << = 2", "r1 <<< 2", "r1 >>>= 2", "r1 === 2", "r1 &&= 2", "r1 <<== 2",
		"r1 = s8", "r1 = s8 5", "r1 = s8 w2", "w1 = s8 r2", "w1 = s32 w2", "r1 = s64 r2", "r1 = s4 r2", "r1 = s 8 r2", "r1 = s08 r2", "r1 = S8 r2", "r1 = u8 r2", "r1 += s8 r2",
		"r1 = le16 r2", "r1 = le8 r1", "r1 = be8 r1", "r1 = le128 r1", "r1 = le r1", "r1 = le 16 r1", "r1 = le16 5", "w1 = le16 w1", "r1 = be16 w1", "r1 = swap8 r1", "r1 = swap r1", "r1 = bswap16 r1", "r1 = swap16 r1 r1", "r1 = swap16", "r1 = le16", "r1 += be16 r1",
		"r1 = wide", "r1 = wide r2", "w1 = wide 5", "r1 += wide 5", "r1 = wide +5", "r1 = data", "w1 = data 5", "r1 = data r2", "r1 = data + 5", "r1 = far 5",
		"r1 = u8", "r1 = u8 [r2", "r1 = u8 r2]", "r1 = u8 []", "r1 = u8 [5]", "r1 = u8 [w2]", "w1 = u8 [r2]", "w1 = u8 [w2]", "r1 = u8 [r2 5]", "r1 = u8 [r2 +]", "r1 = u8 [r2 -]", "r1 = u8 [r2 + r3]", "r1 = u8 [r2 + -5]", "r1 = u8 [r2 - -5]", "r1 = u8 [r2 +=5]", "r1 = u8 [r2 + 5", "r1 = u8 [r2] + 5", "r1 = u8 [5 + r2]", "r1 = u8 [r2 + 5 + 5]", "r1 += u8 [r2]", "r1 = u9 [r2]", "r1 = u128 [r2]", "r1 = u08 [r2]", "r1 = u 8 [r2]", "r1 = s64 [r2]", "r1 = s128 [r2]", "w1 = s8 [r2]", "r1 = [r2]",
		"u8 [r1]", "u8 [r1] =", "u8 [r1] 5", "u8 [r1] = w2", "u8 [w1] = r2", "u8 [r1] += 5", "u8 [r1] += r2", "u8 r1 = 5", "s8 [r1] = 5", "u128 [r1] = 5", "[r1] = 5", "u8 [r1] = r2 if r0", "u8 [r1] = +5", "u8 [r1] = u8 [r2]", "u8 [r1] = -r2",
		"lock", "lock u32", "lock u32 [r1]", "lock u32 [r1] +=", "lock u32 [r1] += 5", "lock u32 [r1] = r2", "lock u32 [r1] = 5 if r0", "lock u32 [r1] = r2 if r1", "lock u32 [r1] = r2 if w0", "lock u32 [r1] = r2 if", "lock u32 [r1] += r2 if r0", "lock u8 [r1] += r2", "lock u16 [r1] += r2", "lock u8 [r1] = r2 if r0", "lock s32 [r1] += r2", "lock u32 [r1] -= r2", "lock u32 [r1] *= r2", "lock u32 [r1] <<= r2", "lock u32 [r1] & r2", "lock u32 [r1] += w2", "lock u32 [w1] += r2", "lock u32 [r1] s+= r2",
		"r2 = lock u32 [r1] += r3", "r2 = lock u32 [r1] = r3", "r2 = lock u32 [r1] = r2 if r0", "r0 = lock u32 [r1] = r2 if r0", "r2 += lock u32 [r1] += r2", "w2 = lock u32 [r1] += w2", "r2 = lock u8 [r1] += r2", "r2 = lock u32 [r1] -= r2", "r2 = lock u32 [r1]", "r2 = lock u32 [r1] += 2", "r2 = lock r2",
		"goto", "goto 5", "goto -", "goto +", "goto a b", "goto far far far", "goto far 5", "goto far a b", "goto near a", "goto a:", "goto +r1", "goto + + 5", "goto [a]", "goto r1 + 5", "Goto a", "goto +5 6", "far a", "far goto a", "goto - a", "goto +=5",
		"if", "if r1", "if r1 == 5", "if r1 == 5 goto", "if r1 == 5 goto 5", "if r1 == 5 goto far +5", "if r1 == 5 goto far a", "if r1 == 5 a", "if r1 = 5 goto a", "if r1 5 goto a", "if r1 == goto a", "if r1 == w2 goto a", "if w1 == r2 goto a", "if 5 == r1 goto a", "if 5 == 5 goto a", "if r1 s== 5 goto a", "if r1 s!= 5 goto a", "if r1 s& 5 goto a", "if r1 && 5 goto a", "if r1 &= 5 goto a", "if r1 += 5 goto a", "if r1 >> 5 goto a", "if r1 s>> 5 goto a", "if r1 s>>= 5 goto a", "if r1 === 5 goto a", "if r1 !== 5 goto a", "if r1 > = 5 goto a", "if r1 == +5 goto a", "if r11 == 5 goto a", "if r1 == r2 == r3 goto a", "if r1 == r2 goto a b", "if a goto b", "if r1 == 5 exit", "if r1 == 5 goto a:", "if r1 == 5 goto [a]",
		"call", "call r1", "call +5", "call 5 6", "call a", "call - - 5", "call [5]", "Exit", "exit 5", "exit r0", "exit: exit exit:", "return", "nop",
	} {
		wantRefused(t, text, 1, api.ErrLine)
		wantRefused(t, "exit\nb: c: "+text+" ; behind labels", 2, api.ErrLine)
		if formed(split(text)) {
			t.Errorf("the tests' own forms take %q", text)
		}
	}
}

// TestTokens (P3.1): every byte, alone in a line and behind an instruction; what is a token goes as far as can be.
func TestTokens(t *testing.T) {
	for c := range 256 {
		alone, e := string([]byte{byte(c)}), api.ErrWord
		switch {
		case strings.Contains(" \t\r\n;", alone):
			wantParse(t, alone, nil)
			wantParse(t, "exit"+alone, []api.Ins{{Op: api.OpExit}})
			continue
		case strings.Contains("+-[]:=&<>_0123456789abcdefghijklmnopqrstuvwxyzABCDEFGHIJKLMNOPQRSTUVWXYZ", alone):
			e = api.ErrLine
		}
		wantRefused(t, alone, 1, e)
		wantRefused(t, "\nr1 = 5 "+alone, 2, e)
		wantRefused(t, "\n["+alone+"]", 2, e)
		wantRefused(t, "\n\nr1 = x"+alone, 3, e)
	}
	for _, text := range []string{"r1 ! = 5", "r1 | = 5", "if r1 ! 5 goto +0", "r1 * = 5", "r1 **= 5", "r1 ||= 5", "r1 //= 5", "r1 %%= 5", "r1 ^^= 5", "r1 !!= 5", "r1 ^ 5", "r1 / 5 = 5", "r1 % 5", "!", "= !", "=!", "r1 |", "r1 = *", "r1 = ~5", "r1 = (5)", "r1, r2", "r1 = 5.", "r1 = 'a'", "# exit", "// exit", "exit\x00", "\ufeffexit", "r1\u00a0= 5", "r\u00e9 = 5", "r1 = \u0661", "r1 \u2260 5", "r1 = 5 \xff;", "\x80", "a\xc3:", "exit\v", "exit\f", "\x7f"} {
		wantRefused(t, text, 1, api.ErrWord)
		wantRefused(t, "a:\n\n"+text+"\nexit", 3, api.ErrWord)
	}
	for _, text := range []string{"r1=5", "r1 =5", "r1= 5", "r1\t\t=\r5", ";;\n r1 = 5", "r1 = 5;", "r1 = 5;;", "r1 = 5 ; \" ' \\ ! * \x00 \x80 \xff \u00e9 \u2260", "r1 = 5;r1 = 6", "r1 = 5\n;\x80", "r1 = 5 ;\xc3"} {
		wantParse(t, text, []api.Ins{{Op: api.OpMov, Dst: 1, Imm: 5}})
	}
	wantParse(t, "r1=-5", []api.Ins{{Op: api.OpMov, Dst: 1, Imm: -5}})
	wantParse(t, "r1 =- 5", []api.Ins{{Op: api.OpMov, Dst: 1, Imm: -5}})
	wantParse(t, "r1-=-5", []api.Ins{{Op: api.OpSub, Dst: 1, Imm: -5}})
	wantParse(t, "r1=-r1", []api.Ins{{Op: api.OpNeg, Dst: 1}})
	wantParse(t, "if r1<-5 goto+0", []api.Ins{{Op: api.OpJlt, Dst: 1, Imm: -5}})
	wantParse(t, "if r1&-5 goto-1", []api.Ins{{Op: api.OpJset, Dst: 1, Imm: -5, Off: -1}})
	wantParse(t, "if r1 s<=r2 goto + 1", []api.Ins{{Op: api.OpJsle, Reg: true, Dst: 1, Src: 2, Off: 1}})
	wantParse(t, "w3 s /=w4", []api.Ins{{Op: api.OpSdiv, Narrow: true, Reg: true, Dst: 3, Src: 4}})
	wantRefused(t, "if r1<=-5goto+0", 1, api.ErrWord) // 5goto is no number
	wantRefused(t, "ifr1==5 goto+0", 1, api.ErrLine)  // ifr1 is a word
	wantRefused(t, "if r1==r2goto+0", 1, api.ErrLine) // r2goto too
}

// TestNumbers (P3.1): which are numbers, and from where to where, in decimal and in hexadecimal digits.
func TestNumbers(t *testing.T) {
	zeros := strings.Repeat("0", 1000)
	for _, c := range []struct {
		text string
		v    int
	}{
		{"0", 0}, {"00", 0}, {"-0", 0}, {"- 0", 0}, {"0x0", 0}, {"-0x0", 0}, {"007", 7}, {"010", 10}, {"-010", -10}, {"0x10", 16}, {"-0x10", -16}, {"0xabcdef", 0xabcdef}, {"0x0123456789", 0x123456789}, {"0x00ff", 255},
		{zeros + "12", 12}, {"0x" + zeros + "1f", 31}, {"-" + zeros + "12", -12},
		{"9223372036854775807", math.MaxInt}, {"0x7fffffffffffffff", math.MaxInt}, {"-9223372036854775807", -math.MaxInt}, {"-0x7fffffffffffffff", -math.MaxInt},
		{"-9223372036854775808", math.MinInt}, {"-0x8000000000000000", math.MinInt}, {"- 0x8000000000000000", math.MinInt}, {zeros + "9223372036854775807", math.MaxInt},
	} {
		wantParse(t, "r1 = wide "+c.text, []api.Ins{{Op: api.OpWide, Dst: 1, Imm: c.v}})
	}
	for _, text := range []string{"9223372036854775808", "0x8000000000000000", "-9223372036854775809", "-0x8000000000000001", "18446744073709551615", "18446744073709551616", "0xffffffffffffffff", "0x10000000000000000", "-0x10000000000000000", "18446744073709551621", strings.Repeat("9", 1000), "-0x" + strings.Repeat("f", 1000), "1" + zeros} {
		wantRefused(t, "r1 = wide "+text, 1, api.ErrRange)
		wantRefused(t, "r1 = "+text, 1, api.ErrRange)
		wantRefused(t, "call "+text, 1, api.ErrRange)
		wantRefused(t, "u8 [r1] = "+text, 1, api.ErrRange)
		wantRefused(t, "if r1 == "+text+" goto +0", 1, api.ErrRange)
		if !strings.HasPrefix(text, "-") {
			text = "+" + text
		}
		wantRefused(t, "goto "+text, 1, api.ErrRange)
		wantRefused(t, "goto far "+text, 1, api.ErrRange)
		wantRefused(t, "if r1 == 5 goto "+text, 1, api.ErrRange)
		wantRefused(t, "r1 = u8 [r1 "+text+"]", 1, api.ErrRange)
	}
	for _, text := range []string{"0x", "0X1", "0xA", "0xF", "0xg", "0x1g", "0x1G", "00x1", "1x1", "0b1", "0o7", "1_000", "0x_1", "0x1_1", "1_", "12ab", "5r", "0xx1", "1e5", "0x-1", "0x 1"} {
		wantRefused(t, "r1 = wide "+text, 1, api.ErrWord)
	}
}

// TestRange (P3.1): instructions of a right form that are not right (P2.3), at each of their edges.
func TestRange(t *testing.T) {
	for _, text := range []string{
		"r10 = 1", "w10 = 1", "r10 += r1", "r10 = -r10", "w10 = -w10", "r10 = s8 r1", "r10 = le16 r10", "r10 = be32 r10", "r10 = swap64 r10", "r10 = wide 1", "r10 = data 1", "r10 = u8 [r1]", "r10 = s8 [r1]",
		"r10 = lock u64 [r1] += r10", "r10 = lock u64 [r1] |= r10", "r10 = lock u64 [r1] &= r10", "r10 = lock u64 [r1] ^= r10", "r10 = lock u64 [r1] = r10",
		"r1 = 2147483648", "r1 = -2147483649", "w1 = 2147483648", "w1 = 0xffffffff", "w1 = -2147483649", "u8 [r1] = 2147483648", "u8 [r1] = -2147483649", "if r1 == 2147483648 goto +0", "if w1 == -2147483649 goto +0", "call 2147483648", "call -2147483649",
		"r1 /= 0", "r1 %= 0", "r1 s/= 0", "r1 s%= 0", "w1 /= 0", "w1 %= 0x0", "w1 s/= -0", "w1 s%= 0",
		"r1 <<= 64", "r1 >>= 64", "r1 s>>= 64", "r1 <<= -1", "r1 >>= -1", "r1 s>>= -1", "w1 <<= 32", "w1 >>= 32", "w1 s>>= 32", "w1 <<= -1",
		"r1 = data -1", "r1 = data 2147483648",
		"r1 = u8 [r1 + 32768]", "r1 = u8 [r1 - 32769]", "r1 = s8 [r1 + 32768]", "u8 [r1 + 32768] = 1", "u8 [r1 - 32769] = r1", "lock u32 [r1 + 32768] += r1", "lock u32 [r1 - 32769] = r1 if r0",
		"goto +32768", "goto -32769", "goto far +2147483648", "goto far -2147483649", "if r1 == 5 goto +32768", "if r1 == r2 goto -32769",
	} {
		wantRefused(t, text, 1, api.ErrRange)
		wantRefused(t, "exit\nx: "+text+"\nexit", 2, api.ErrRange)
	}
}

// TestLineWrong (P3.2): the error of code.Check.
func TestLineWrong(t *testing.T) {
	for _, i := range []api.Ins{
		{}, {Op: -1}, {Op: api.OpExit + 1}, {Op: math.MinInt}, {Op: math.MaxInt}, {Op: api.OpLoad}, {Op: api.OpLoad, Size: math.MaxInt}, {Op: api.OpExit, Narrow: true}, {Op: api.OpMovs, Size: 8}, {Op: api.OpMovs, Reg: true, Narrow: true, Size: 32},
		{Op: api.OpMov, Dst: 10}, {Op: api.OpMov, Dst: -1}, {Op: api.OpMov, Dst: 11}, {Op: api.OpMov, Reg: true, Src: math.MinInt}, {Op: api.OpAtom, Size: 8, Src: 10, Imm: api.AtomXchg},
		{Op: api.OpMov, Src: 1}, {Op: api.OpJeq, Off: 32768}, {Op: api.OpJa, Off: math.MinInt}, {Op: api.OpExit, Dst: 1}, {Op: api.OpJa, Narrow: true, Off: 1},
		{Op: api.OpMov, Imm: 1 << 31}, {Op: api.OpDiv}, {Op: api.OpData, Imm: -1}, {Op: api.OpJa, Imm: 1}, {Op: api.OpJa, Narrow: true, Imm: math.MaxInt}, {Op: api.OpAtom, Size: 4, Imm: 2}, {Op: api.OpMov, Reg: true, Imm: 1},
	} {
		_, e := code.Check([]api.Ins{i})
		if e == api.OK {
			t.Fatalf("%+v is right", i)
		}
		wantLine(t, i, "", e)
		wantUnprinted(t, []api.Ins{i}, 0, e)
		wantUnprinted(t, []api.Ins{{Op: api.OpExit}, {Op: api.OpExit}, i, {}}, 2, e)
	}
}

// fault is a line with an error, and perhaps with later ones of P3.1's list.
type fault struct {
	e    api.Errno
	line string
}

// faults are, for a text in which the label a stands, lines with each error, alone and together with each later one.
func faults() []fault {
	return []fault{
		{api.ErrWord, "r1 = 5 ?"},                 // alone
		{api.ErrWord, "r1 + 5 ?"},                 // and ErrLine
		{api.ErrWord, "? r1 + 5"},                 // it stands ahead, or behind
		{api.ErrWord, "a: r1 = 5 ?"},              // and ErrTwice
		{api.ErrWord, "a: ?"},                     // of no instruction
		{api.ErrWord, "r1 = 99999999999 ?"},       // and ErrRange
		{api.ErrWord, "r1 = 0x8000000000000000g"}, // in a number
		{api.ErrWord, "a: r1 + 99999999999 ?"},    // and all
		{api.ErrWord, "goto nowhere ?"},           // and ErrLabel
		{api.ErrLine, "r1 + 5"},                   // alone
		{api.ErrLine, "a: r1 + 5"},                // and ErrTwice
		{api.ErrLine, "a: a"},                     // behind it
		{api.ErrLine, "r1 + 9223372036854775808"}, // and ErrRange, of the number
		{api.ErrLine, "r10 = 1 exit"},             // of the instruction
		{api.ErrLine, "r1 /= 0 a:"},               // and a label behind it
		{api.ErrLine, "a: r1 + 9223372036854775808"},
		{api.ErrLine, "goto nowhere exit"}, // and ErrLabel
		{api.ErrTwice, "a: r1 = 5"},        // alone
		{api.ErrTwice, "a:"},               // without an instruction
		{api.ErrTwice, "a: r1 = 99999999999"},
		{api.ErrTwice, "b: a: r1 = 9223372036854775808"},
		{api.ErrTwice, "c: c: r10 = 1"},                 // in one line
		{api.ErrTwice, "a: goto nowhere"},               // and ErrLabel
		{api.ErrRange, "r1 = 99999999999"},              // of the instruction
		{api.ErrRange, "r1 = wide 9223372036854775808"}, // of the number
		{api.ErrRange, "r10 = 1"},
		{api.ErrRange, "if r1 == 99999999999 goto nowhere"}, // and ErrLabel
		{api.ErrRange, "if r10 == 9223372036854775808 goto a"},
	}
}

// behind are lines with every error, and without one.
func behind() []string {
	return []string{"", "exit", "r1 = 5 ?", "r1 + 5", "a: exit", "r1 = 99999999999", "goto nowhere", "a: r1 + 99999999999 ?", "\xff"}
}

// TestErrors (P3.1): every error, alone and with each later one of the list in its line, with any error in a line behind it, and with ErrLong's place reached or not.
func TestErrors(t *testing.T) {
	full := times("exit", api.MaxIns)
	for _, f := range faults() {
		for _, b := range behind() {
			wantRefused(t, lines("a: exit", "goto nowhere", f.line, b), 3, f.e)
			wantRefused(t, lines("a:", f.line)+b, 2, f.e)
		}
		wantRefused(t, "a:\n"+full+f.line, api.MaxIns+2, f.e)
		wantRefused(t, "a:\n"+full+f.line+"\n"+full+"\n?", api.MaxIns+2, f.e)
	}
	for _, b := range behind() {
		wantRefused(t, lines("a:")+full+lines("exit", b), api.MaxIns+2, api.ErrLong)
		wantRefused(t, lines("goto nowhere", "a:")+full+lines("b: exit", b), api.MaxIns+2, api.ErrLong)
	}
}

// TestLabelErrors (P3.1): ErrLabel comes where no line has an error, and tells the first line of those that go to no label.
func TestLabelErrors(t *testing.T) {
	wantRefused(t, lines("exit", "goto x", "goto y"), 2, api.ErrLabel)
	wantRefused(t, lines("x:", "goto x", "", "; x", "if r1 == 5 goto y", "goto z", "x2: exit"), 5, api.ErrLabel)
	wantRefused(t, lines("x: goto far y", "goto x"), 1, api.ErrLabel)
	wantRefused(t, lines("goto x", "X: exit"), 1, api.ErrLabel)
	wantRefused(t, lines("goto far", "goto fa", "far:"), 2, api.ErrLabel)
	wantRefused(t, lines("goto r1"), 1, api.ErrLabel)
	wantRefused(t, lines("if w1 & w2 goto exit", "exit"), 1, api.ErrLabel)
	wantRefused(t, lines("goto x", "r1 + 5"), 2, api.ErrLine)
	wantRefused(t, lines("goto x", "exit", "exit ?"), 3, api.ErrWord)
	wantRefused(t, lines("goto x", "y:", "y:"), 3, api.ErrTwice)
	wantRefused(t, lines("goto x", "r10 = 1"), 2, api.ErrRange)
}

// TestLines (P3.1): lines are counted from 1 on; what stands behind the last LF is one, if it is anything.
func TestLines(t *testing.T) {
	exit := []api.Ins{{Op: api.OpExit}}
	for _, text := range []string{"exit", "exit\n", "\nexit", "\r\nexit\r\n", "\n\nexit\n\n\n", "exit\r", "\rexit", " \texit \t", ";\nexit\n;", "exit;\r\n", "ex:\nexit", "a:b:\r\nc : exit", "exit\na:", "exit\na:\n"} {
		wantParse(t, text, exit)
	}
	for _, text := range []string{"", "\n", "\n\n\n", "\r", "\r\n", " ", "\t", ";", ";\n;", "a:", "a:\n", "a:b:\n\nc:"} {
		wantParse(t, text, nil)
	}
	wantParse(t, "exit\nexit", slices.Concat(exit, exit))
	for _, c := range []struct {
		text string
		line int
	}{{"x", 1}, {"x\n", 1}, {"\nx", 2}, {"\n\nx\n", 3}, {"\r\n\r\nx\r\n", 3}, {"\r\rx", 1}, {";x\nx", 2}, {"exit\nexit\nx", 3}, {";\n;\n\n;\nx\n", 5}, {"exit;\nx", 2}, {"a:\nx", 2}} {
		wantRefused(t, c.text, c.line, api.ErrLine)
	}
	wantRefused(t, "exit\rexit", 1, api.ErrLine) // CR ends no line
	wantRefused(t, "goto\n+0", 1, api.ErrLine)   // LF ends one
}
