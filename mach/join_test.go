package mach_test

import (
	"strconv"
	"strings"
	"testing"

	"warrant/api"
)

// text is a number as a line's text.
func text(n int) string { return strconv.Itoa(n) }

// TestJoins: every operation of two operands, of -7 and 5: 64 and 32 bits, with a register and with an Imm.
func TestJoins(t *testing.T) {
	for _, c := range []struct {
		op           string
		wide, narrow int
	}{
		{"+=", -2, 1<<32 - 2},
		{"-=", -12, 1<<32 - 12},
		{"*=", -35, 1<<32 - 35},
		{"/=", 3689348814741910321, 858993457},
		{"%=", 4, 4},
		{"s/=", -1, 1<<32 - 1},
		{"s%=", -2, 1<<32 - 2},
		{"|=", -3, 1<<32 - 3},
		{"&=", 1, 1},
		{"^=", -4, 1<<32 - 4},
		{"<<=", -224, 1<<32 - 224},
		{">>=", 1<<59 - 1, 1<<27 - 1},
		{"s>>=", -1, 1<<32 - 1},
		{"=", 5, 5},
	} {
		wantReg(t, 6, num(c.wide), "r6 = -7", "r7 = 5", "r6 "+c.op+" r7")
		wantReg(t, 6, num(c.wide), "r6 = -7", "r6 "+c.op+" 5")
		wantReg(t, 6, num(c.narrow), "r6 = -7", "r7 = 5", "w6 "+c.op+" w7")
		wantReg(t, 6, num(c.narrow), "r6 = -7", "w6 "+c.op+" 5")
		wantReg(t, 7, num(5), "r6 = -7", "r7 = 5", "r6 "+c.op+" r7")
		if c.op == "=" || c.op[0] == 's' || strings.HasSuffix(c.op, ">=") || c.op == "/=" || c.op == "%=" {
			continue
		}
		// the high half of the second operand counts in 64 bits alone
		wantReg(t, 6, num(c.narrow), "r6 = -7", "r7 = wide "+text(9<<32+5), "w6 "+c.op+" w7")
	}
}

// TestSigns: an Imm has its sign, in 64 bits too.
func TestSigns(t *testing.T) {
	wantReg(t, 6, num(-1), "r6 = -1")
	wantReg(t, 6, num(1<<32-1), "w6 = -1")
	wantReg(t, 6, num(-1<<31), "r6 = -2147483648")
	wantReg(t, 6, num(1<<31), "w6 = -2147483648")
	wantReg(t, 6, num(4), "r6 = 5", "r6 += -1")
	wantReg(t, 6, num(6), "r6 = 5", "r6 -= -1")
	wantReg(t, 6, num(5), "r6 = 5", "r6 &= -1")
	wantReg(t, 6, num(-1), "r6 = 5", "r6 |= -1")
	wantReg(t, 6, num(0), "r6 = 5", "r6 /= -1")
	wantReg(t, 6, num(5), "r6 = 5", "r6 %= -1")
	wantReg(t, 6, num(-5), "r6 = 5", "r6 s/= -1")
	wantReg(t, 6, num(0), "r6 = 5", "r6 s%= -1")
	wantReg(t, 6, num(least), "r6 = wide "+text(least), "r6 s/= -1")
	wantReg(t, 6, num(least), "r6 = wide "+text(most), "r6 += 1")
	wantReg(t, 6, num(most), "r6 = wide "+text(least), "r6 -= 1")
	wantReg(t, 6, num(0), "r6 = wide 4294967295", "w6 += 1")
}

// TestShifts: by a register the low bits alone count.
func TestShifts(t *testing.T) {
	wantReg(t, 6, num(6), "r6 = 3", "r7 = 65", "r6 <<= r7")
	wantReg(t, 6, num(6), "r6 = 3", "r7 = 33", "w6 <<= w7")
	wantReg(t, 6, num(3<<33), "r6 = 3", "r7 = 33", "r6 <<= r7")
	wantReg(t, 6, num(least), "r6 = 1", "r6 <<= 63")
	wantReg(t, 6, num(1<<31), "r6 = 1", "w6 <<= 31")
	wantReg(t, 6, num(1), "r6 = -1", "r6 >>= 63")
	wantReg(t, 6, num(1), "r6 = -1", "w6 >>= 31")
	wantReg(t, 6, num(-1), "r6 = -1", "r6 s>>= 63")
	wantReg(t, 6, num(1<<32-1), "r6 = -1", "w6 s>>= 31")
	wantReg(t, 6, num(1), "r6 = -1", "r7 = -1", "r6 >>= r7")
}

// TestOnes: the operations of one operand.
func TestOnes(t *testing.T) {
	const v = "r6 = wide " + "1311768467463790320" // 0x123456789abcdef0
	wantReg(t, 6, num(-0x123456789abcdef0), v, "r6 = -r6")
	wantReg(t, 6, num(0x65432110), v, "w6 = -w6")
	wantReg(t, 6, num(0), "r6 = 0", "r6 = -r6")
	wantReg(t, 6, num(least), "r6 = wide "+text(least), "r6 = -r6")
	wantReg(t, 6, num(0), "r6 = wide 4294967296", "w6 = -w6")

	wantReg(t, 7, num(-0x10), v, "r7 = s8 r6")
	wantReg(t, 7, num(-0x2110), v, "r7 = s16 r6")
	wantReg(t, 7, num(-0x65432110), v, "r7 = s32 r6")
	wantReg(t, 7, num(1<<32-0x10), v, "w7 = s8 w6")
	wantReg(t, 7, num(1<<32-0x2110), v, "w7 = s16 w6")
	wantReg(t, 6, num(-0x10), v, "r6 = s8 r6")
	wantReg(t, 7, num(0x7f), "r6 = 0x17f", "r7 = s8 r6")

	wantReg(t, 6, num(0xdef0), v, "r6 = le16 r6")
	wantReg(t, 6, num(0x9abcdef0), v, "r6 = le32 r6")
	wantReg(t, 6, num(0x123456789abcdef0), v, "r6 = le64 r6")
	for _, op := range []string{"be", "swap"} {
		wantReg(t, 6, num(0xf0de), v, "r6 = "+op+"16 r6")
		wantReg(t, 6, num(0xf0debc9a), v, "r6 = "+op+"32 r6")
		wantReg(t, 6, num(-0x0f21436587a9cbee), v, "r6 = "+op+"64 r6")
	}
}

// TestConstants: OpWide, OpData.
func TestConstants(t *testing.T) {
	for _, v := range []int{0, 1, -1, 1 << 31, 1<<32 - 1, 1 << 32, -1<<31 - 1, least, most} {
		wantReg(t, 6, num(v), "r6 = wide "+text(v))
	}
	for _, x := range []int{0, 1, 11, 12} {
		wantReg(t, 6, data(x), "r6 = data "+text(x))
	}
}

// numberLines are the operations of two operands that numbers alone take.
func numberLines() []string {
	var l []string
	for _, op := range []string{"*=", "/=", "%=", "s/=", "s%=", "|=", "&=", "^=", "<<=", ">>=", "s>>="} {
		l = append(l, "r6 "+op+" r7", "w6 "+op+" w7")
	}
	return append(l, "w6 += w7", "w6 -= w7")
}

// TestNumbersAlone: what is none, and pointers of each kind, in either place.
func TestNumbersAlone(t *testing.T) {
	for _, v := range [][]string{nil, {"X = r10"}, {"X = r1"}, {"X = data 3"}, {"r1 = 0", "r2 = 1", "call 7", "X = r0"}} {
		into := func(r string) []string { return strings.Split(strings.ReplaceAll(strings.Join(v, "\n"), "X", r), "\n") }
		for _, line := range numberLines() {
			wantTrap(t, api.TrapKind, append(into("r6"), "r7 = 3", line)...)
			wantTrap(t, api.TrapKind, append(into("r7"), "r6 = 3", line)...)
			if v != nil {
				wantTrap(t, api.TrapKind, append(into("r6"), "r7 = r6", line)...)
			}
			wantTrap(t, api.TrapKind, append(into("r6"), strings.Replace(strings.Replace(line, "r7", "3", 1), "w7", "3", 1))...)
		}
		for _, line := range []string{"r6 = -r6", "w6 = -w6", "r6 = le16 r6", "r6 = le32 r6", "r6 = le64 r6", "r6 = be16 r6", "r6 = be32 r6", "r6 = be64 r6", "r6 = swap16 r6", "r6 = swap32 r6", "r6 = swap64 r6"} {
			wantTrap(t, api.TrapKind, append(into("r6"), line)...)
		}
		for _, line := range []string{"r6 = s8 r7", "r6 = s16 r7", "r6 = s32 r7", "w6 = s8 w7", "w6 = s16 w7", "w6 = w7"} {
			wantTrap(t, api.TrapKind, append(into("r7"), "r6 = 3", line)...)
		}
	}
}

// TestNotRead: what an operation does not read may be none, or a pointer.
func TestNotRead(t *testing.T) {
	for _, first := range []string{"", "r6 = r10", "r6 = r1", "r6 = data 1"} {
		wantReg(t, 6, num(5), first, "r6 = 5")
		wantReg(t, 6, num(21), first, "r6 = r2")
		wantReg(t, 6, num(5), first, "w6 = 5")
		wantReg(t, 6, num(21), first, "w6 = w2")
		wantReg(t, 6, num(21), first, "r6 = s8 r2")
		wantReg(t, 6, num(21), first, "w6 = s16 w2")
		wantReg(t, 6, num(5), first, "r6 = wide 5")
		wantReg(t, 6, data(5), first, "r6 = data 5")
		wantReg(t, 6, num(0xf0), first, "r6 = u8 [r1]")
		wantReg(t, 6, num(-16), first, "r6 = s8 [r1]")
	}
}

// TestKinds: values of each kind joined with one another by OpAdd, OpSub and OpMov; K is TrapKind, n a number, a and b the first's pointer and the second's.
func TestKinds(t *testing.T) {
	l := []api.Value{{}, num(3), stack(40), ctx(7), data(2), row(0, 1, 4)}
	for _, c := range []struct {
		op   int
		want [6]string
	}{
		{api.OpAdd, [6]string{"KKKKKK", "Knbbbb", "KaKKKK", "KaKKKK", "KaKKKK", "KaKKKK"}},
		{api.OpSub, [6]string{"KKKKKK", "KnKKKK", "KanKKK", "KaKnKK", "KaKKnK", "KaKKKK"}},
		{api.OpMov, [6]string{"Knbbbb", "Knbbbb", "Knbbbb", "Knbbbb", "Knbbbb", "Knbbbb"}},
		{api.OpMul, [6]string{"KKKKKK", "KnKKKK", "KKKKKK", "KKKKKK", "KKKKKK", "KKKKKK"}},
		{api.OpNeg, [6]string{"KKKKKK", "nnnnnn", "KKKKKK", "KKKKKK", "KKKKKK", "KKKKKK"}},
	} {
		for x, a := range l {
			for y, b := range l {
				i := api.Ins{Op: c.op, Dst: 6, Reg: true, Src: 7}
				if c.op == api.OpNeg {
					i = api.Ins{Op: c.op, Dst: 6}
				}
				_, s, e := tried(t, holding(t, held{6, a}, held{7, b}), i)
				got := s.Regs[6]
				is := false
				switch c.want[x][y] {
				case 'K':
					is = e == api.TrapKind
				case 'n':
					is = e == api.OK && got.Kind == api.KindNum && got.Table == 0 && got.Row == 0
				case 'a':
					got.X = a.X
					is = e == api.OK && got == a
				case 'b':
					got.X = b.X
					is = e == api.OK && got == b
				}
				if !is {
					t.Errorf("operation %d of %v and %v: %v, %v; want %c", c.op, a, b, s.Regs[6], e, c.want[x][y])
				}
			}
		}
	}
}

// TestPointers: the offsets and distances that OpAdd, OpSub and OpMov come to.
func TestPointers(t *testing.T) {
	wantReg(t, 6, stack(251), "r6 = r10", "r6 += -5")
	wantReg(t, 6, stack(261), "r6 = r10", "r6 -= -5")
	wantReg(t, 6, stack(277), "r6 = r10", "r6 += r2")
	wantReg(t, 6, stack(277), "r6 = r2", "r6 += r10")
	wantReg(t, 6, stack(235), "r6 = r10", "r6 -= r2")
	wantReg(t, 6, ctx(21), "r6 = r1", "r6 += r2")
	wantReg(t, 6, ctx(-21), "r6 = r1", "r6 -= r2")
	wantReg(t, 6, num(21), "r6 = r1", "r6 += r2", "r6 -= r1")
	wantReg(t, 6, num(-21), "r6 = r1", "r7 = r1", "r7 += r2", "r6 -= r7")
	wantReg(t, 6, num(-256), "r6 = r10", "r6 += -256", "r6 -= r10")
	wantReg(t, 6, num(0), "r6 = r10", "r6 -= r6")
	wantReg(t, 6, num(5), "r6 = data 7", "r7 = data 2", "r6 -= r7")
	wantReg(t, 6, data(9), "r6 = data 7", "r6 += 2")
	wantReg(t, 6, row(0, 2, 3), "r1 = 0", "r2 = 2", "call 7", "r6 = r0", "r6 += 3")
	wantReg(t, 6, row(1, 1, -3), "r1 = 1", "r2 = 1", "call 7", "r6 = 3", "r7 = r0", "r7 -= r6", "r6 = r7")
	wantReg(t, 6, stack(256), "r6 = r10")
	wantReg(t, 6, num(2<<20), "r6 = r1", "r6 += 1048576", "r7 = r1", "r7 -= 1048576", "r6 -= r7")
	wantTrap(t, api.TrapKind, "r1 = 0", "r2 = 2", "call 7", "r6 = r0", "r6 -= r0")
}

// TestOffsets: offsets at -MaxOff and MaxOff and one past them, of pointers of each kind, by every sum and difference that leads there.
func TestOffsets(t *testing.T) {
	for _, v := range []api.Value{stack(256), stack(-1 << 20), ctx(0), ctx(1 << 20), data(3), row(0, 2, 5), row(1, 0, -1<<20)} {
		for _, to := range []int{-1 << 20, -1<<20 - 1, -1<<20 + 1, 1 << 20, 1<<20 + 1, 1<<20 - 1, -1 << 21, 1<<21 + 1, 1 << 40, -1 << 40} {
			want := api.OK
			if to < -1<<20 || to > 1<<20 {
				want = api.TrapOff
			}
			wantMoves(t, v, to-v.X, want)
		}
		for _, by := range []int{least, least + 1, -1 << 62, -1 << 32, -1<<32 + 1, 1 << 32, 1<<32 - 1, 1 << 62, most - 1<<20, most - 1, most} {
			wantMoves(t, v, by, api.TrapOff)
		}
	}
}

// wantMoves: a pointer that is moved by a distance is where it should be, or traps.
func wantMoves(t *testing.T, v api.Value, by int, want api.Errno) {
	t.Helper()
	to := v
	to.X += by
	check := func(dst int, i api.Ins, l ...held) {
		t.Helper()
		i.Dst = dst
		a, b, e := tried(t, holding(t, l...), i)
		if e != want || e == api.OK && b.Regs[dst] != to || e != api.OK && !same(a, b) {
			t.Errorf("%v moved by %d with %+v: %v, %v; want %v", v, by, i, b.Regs[dst], e, want)
		}
	}
	check(6, api.Ins{Op: api.OpAdd, Reg: true, Src: 7}, held{6, v}, held{7, num(by)})
	check(7, api.Ins{Op: api.OpAdd, Reg: true, Src: 6}, held{6, v}, held{7, num(by)})
	if by == least {
		// 2^63 has no number, so the difference with its opposite is tried by itself
		_, b, e := tried(t, holding(t, held{6, v}, held{7, num(least)}), api.Ins{Op: api.OpSub, Reg: true, Dst: 6, Src: 7})
		if e != api.TrapOff {
			t.Errorf("%v less -2^63: %v, %v; want %v", v, b.Regs[6], e, api.TrapOff)
		}
		return
	}
	check(6, api.Ins{Op: api.OpSub, Reg: true, Src: 7}, held{6, v}, held{7, num(-by)})
	if -1<<31 < by && by < 1<<31 {
		check(6, api.Ins{Op: api.OpAdd, Imm: by}, held{6, v})
		check(6, api.Ins{Op: api.OpSub, Imm: -by}, held{6, v})
	}
}

// TestTrapDiv: divisions by 0, of the low half alone where it is narrow; TrapKind comes ahead.
func TestTrapDiv(t *testing.T) {
	for _, op := range []string{"/=", "%=", "s/=", "s%="} {
		wantTrap(t, api.TrapDiv, "r6 = 5", "r7 = 0", "r6 "+op+" r7")
		wantTrap(t, api.TrapDiv, "r6 = 5", "r7 = 0", "w6 "+op+" w7")
		wantTrap(t, api.TrapDiv, "r6 = 0", "r6 "+op+" r6")
		wantTrap(t, api.TrapDiv, "r6 = 5", "r7 = wide 4294967296", "w6 "+op+" w7")
		wantReg(t, 6, num(map[string]int{"/=": 0, "%=": 5, "s/=": 0, "s%=": 5}[op]), "r6 = 5", "r7 = wide 4294967296", "r6 "+op+" r7")
		for _, first := range []string{"", "r6 = r10", "r6 = r1"} {
			wantTrap(t, api.TrapKind, first, "r7 = 0", "r6 "+op+" r7")
			wantTrap(t, api.TrapKind, first, "r7 = 0", "w6 "+op+" w7")
		}
		wantTrap(t, api.TrapKind, "r6 = 5", "r6 "+op+" r7")
		wantTrap(t, api.TrapKind, "r6 = 0", "r6 "+op+" r1")
	}
}

// edges are numbers at which arithmetic turns.
func edges() []int {
	return []int{0, 1, -1, 2, 7, -8, 31, 32, 63, 64, 127, 128, 255, 1<<15 - 1, 1 << 15, 1<<31 - 1, 1 << 31, -1 << 31, -1<<31 - 1, 1<<32 - 1, 1 << 32, 1<<32 + 5, 1 << 62, most, least, least + 1, 0x0123456789abcdef, -0x0123456789abcdef}
}

// joins are the operations of two operands, and OpNeg.
func joins() []int {
	var l []int
	for op := api.OpAdd; op <= api.OpMov; op++ {
		l = append(l, op)
	}
	return l
}

// second gives an instruction its second operand: the register 7, or a number, if that may be its Imm.
func second(i api.Ins, reg bool, n int) (api.Ins, bool) {
	if i.Op == api.OpNeg {
		return i, true
	}
	if reg {
		i.Reg, i.Src = true, 7
		return i, true
	}
	i.Imm = n
	is := -1<<31 <= n && n < 1<<31
	switch i.Op {
	case api.OpDiv, api.OpMod, api.OpSdiv, api.OpSmod:
		is = is && n != 0
	case api.OpLsh, api.OpRsh, api.OpArsh:
		is = 0 <= n && (n < 32 || n < 64 && !i.Narrow)
	}
	return i, is
}

// TestJoinEdges: every operation of every two edges, against the twin.
func TestJoinEdges(t *testing.T) {
	for _, op := range joins() {
		for _, narrow := range []bool{false, true} {
			for _, a := range edges() {
				for _, b := range edges() {
					for _, reg := range []bool{false, true} {
						if i, is := second(api.Ins{Op: op, Narrow: narrow, Dst: 6}, reg, b); is {
							tried(t, holding(t, held{6, num(a)}, held{7, num(b)}), i)
						}
					}
				}
			}
		}
	}
}

// TestOneEdges: OpMovs, OpLe, OpBe, OpBswap of every size, of every edge and of values of each kind.
func TestOneEdges(t *testing.T) {
	l := values()
	for _, n := range edges() {
		l = append(l, num(n))
	}
	for _, v := range l {
		for _, size := range []int{16, 32, 64} {
			for _, op := range []int{api.OpLe, api.OpBe, api.OpBswap} {
				tried(t, holding(t, held{6, v}), api.Ins{Op: op, Size: size, Dst: 6})
			}
		}
		for _, size := range []int{8, 16, 32} {
			for _, narrow := range []bool{false, true} {
				if narrow && size == 32 {
					continue
				}
				tried(t, holding(t, held{7, v}), api.Ins{Op: api.OpMovs, Narrow: narrow, Reg: true, Size: size, Dst: 6, Src: 7})
				tried(t, holding(t, held{6, v}), api.Ins{Op: api.OpMovs, Narrow: narrow, Reg: true, Size: size, Dst: 6, Src: 6})
			}
		}
	}
}

// TestJoinKinds: every operation of every two values of each kind, against the twin.
func TestJoinKinds(t *testing.T) {
	for _, a := range values() {
		for _, b := range values() {
			ahead := holding(t, held{6, a}, held{7, b})
			for _, op := range joins() {
				for _, narrow := range []bool{false, true} {
					i, _ := second(api.Ins{Op: op, Narrow: narrow, Dst: 6}, true, 0)
					tried(t, ahead, i)
				}
			}
		}
		for _, op := range joins() {
			for _, narrow := range []bool{false, true} {
				i, _ := second(api.Ins{Op: op, Narrow: narrow, Dst: 6}, false, 3)
				tried(t, holding(t, held{6, a}), i)
			}
		}
	}
}

// TestSelf: every operation of a register and itself.
func TestSelf(t *testing.T) {
	for _, v := range values() {
		for _, op := range joins() {
			for _, narrow := range []bool{false, true} {
				i := api.Ins{Op: op, Narrow: narrow, Dst: 6}
				if op != api.OpNeg {
					i.Reg, i.Src = true, 6
				}
				tried(t, holding(t, held{6, v}), i)
			}
		}
	}
}

// TestLastReg: r10 is read as any pointer.
func TestLastReg(t *testing.T) {
	for _, v := range values() {
		for _, op := range joins() {
			if op != api.OpNeg {
				tried(t, holding(t, held{6, v}), api.Ins{Op: op, Dst: 6, Reg: true, Src: 10})
			}
		}
	}
}
