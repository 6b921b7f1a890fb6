package step_test

import (
	"testing"

	"warrant/api"
	"warrant/shape"
	"warrant/span"
)

// kinds are all tags that a register may have.
func kinds() []api.Tag {
	return []api.Tag{{}, num(), kind(api.KindStack), kind(api.KindCtx), kind(api.KindData), row(0), row(1), maybe(0), maybe(1)}
}

func isNum(t api.Tag) bool { return t.Kind == api.KindNum }

func isFixed(t api.Tag) bool {
	return t.Kind == api.KindStack || t.Kind == api.KindCtx || t.Kind == api.KindData
}

func pointing(t api.Tag) bool { return isFixed(t) || t.Kind == api.KindRow }

// has tells whether a tag's variable has a value.
func has(t api.Tag) bool { return isNum(t) || pointing(t) }

// small is a shape in which r3 and r4 are of these tags, from 1 to 3 where they have values.
func small(t *testing.T, a, b api.Tag) *shape.Shape {
	t.Helper()
	var cs []api.Con
	if has(a) {
		cs = append(cs, ranged(x, 1, 3)...)
	}
	if has(b) {
		cs = append(cs, ranged(y, 1, 3)...)
	}
	return of(t, tags{x: a, y: b}, cs)
}

// arithmetic are all operations of numbers, with all that they may have.
func arithmetic(dst int, second ...api.Ins) []api.Ins {
	var l []api.Ins
	for op := api.OpAdd; op <= api.OpMov; op++ {
		if op == api.OpNeg {
			l = append(l, api.Ins{Op: op, Dst: dst}, api.Ins{Op: op, Dst: dst, Narrow: true})
			continue
		}
		for _, i := range second {
			i.Op, i.Dst = op, dst
			l = append(l, i, narrow(i))
		}
	}
	for _, i := range second {
		if !i.Reg {
			continue
		}
		for _, size := range []int{8, 16, 32} {
			i.Op, i.Dst, i.Size = api.OpMovs, dst, size
			if l = append(l, i); size < 32 {
				l = append(l, narrow(i))
			}
		}
	}
	for _, op := range []int{api.OpLe, api.OpBe, api.OpBswap} {
		for _, size := range []int{16, 32, 64} {
			l = append(l, api.Ins{Op: op, Dst: dst, Size: size})
		}
	}
	return l
}

// suits tells which kinds an operation takes: the chapter's rows once more, for operands from 1 to 3.
func suits(i api.Ins, a, b api.Tag) bool {
	switch {
	case i.Op == api.OpNeg, i.Op == api.OpLe, i.Op == api.OpBe, i.Op == api.OpBswap:
		return isNum(a)
	case i.Op == api.OpMovs, i.Op == api.OpMov && i.Narrow:
		return isNum(b)
	case i.Op == api.OpMov:
		return b.Kind != api.KindNone
	case i.Op == api.OpAdd && !i.Narrow:
		return isNum(a) && isNum(b) || pointing(a) && isNum(b) || isNum(a) && pointing(b)
	case i.Op == api.OpSub && !i.Narrow:
		return has(a) && isNum(b) && (isNum(a) || pointing(a)) || isFixed(a) && a.Kind == b.Kind
	}
	return isNum(a) && isNum(b)
}

// TestKinds (P10.3, P10.4): every operation, wide and narrow, with another register, the same one, r10 and an Imm, over each pair of kinds.
func TestKinds(t *testing.T) {
	try := func(s *shape.Shape, i api.Ins, a, b api.Tag) {
		t.Helper()
		if !suits(i, a, b) {
			wantTrap(t, api.TrapKind, doing(s, i))
		} else if now, e := doing(s, i).held(t, program()); e != api.OK || now.Dead() {
			t.Errorf("%s: %s, %v", doing(s, i).told(), told(now), e)
		}
	}
	for _, a := range kinds() {
		for _, b := range kinds() {
			s := small(t, a, b)
			for _, i := range arithmetic(3, api.Ins{Reg: true, Src: 4}) {
				try(s, i, a, b)
			}
		}
		s := small(t, a, api.Tag{})
		for _, i := range arithmetic(3, api.Ins{Reg: true, Src: 3}) {
			try(s, i, a, a)
		}
		for _, i := range arithmetic(3, api.Ins{Reg: true, Src: 10}) {
			try(s, i, a, kind(api.KindStack))
		}
		for _, i := range arithmetic(3, api.Ins{Imm: 1}) {
			try(s, i, a, num())
		}
	}
}

// TestMov (P10.3): every kind with its bounds; over what is of another kind; of itself; of r10 and numbers.
func TestMov(t *testing.T) {
	for _, a := range kinds() {
		for _, b := range kinds() {
			if b.Kind == api.KindNone {
				continue
			}
			s, want := small(t, a, b), of(t, tags{x: b, y: b})
			if has(b) {
				want = of(t, tags{x: b, y: b}, ranged(y, 1, 3), same(x, y))
			}
			wantIs(t, doing(s, byReg(api.OpMov, 3, 4)), want)
			wantSame(t, doing(s, byReg(api.OpMov, 4, 4)))
		}
		s := small(t, num(), a)
		wantIs(t, doing(s, byReg(api.OpMov, 4, 10)), of(t, tags{x: num(), y: kind(api.KindStack)}, ranged(x, 1, 3), exactly(y, 256)))
		for _, c := range []int{0, 1, -1, 1<<31 - 1, -1 << 31} {
			wantIs(t, doing(s, byImm(api.OpMov, 4, c)), of(t, tags{x: num(), y: num()}, ranged(x, 1, 3), exactly(y, c)))
		}
	}
	wantTraps(t, api.TrapKind, of(t, tags{x: num()}), byReg(api.OpMov, 3, 4), byReg(api.OpMov, 4, 4), byReg(api.OpMov, 3, 0), byReg(api.OpMov, 3, 9))
	far := of(t, tags{x: num(), y: row(1)}, cons(con(x, 59, -most), con(1, x, most), con(y, 1, 4)))
	wantIs(t, doing(far, byReg(api.OpMov, 5, 3)), of(t, tags{x: num(), y: row(1), z: num()}, cons(con(x, 59, -most), con(1, x, most), con(y, 1, 4)), same(x, z)))
	wantIs(t, doing(far, byReg(api.OpMov, 3, 4)), of(t, tags{x: row(1), y: row(1)}, cons(con(y, 1, 4), con(1, 59, 0)), same(x, y)))
}

// moved are the instructions that add a number to r3.
func moved(c int) []api.Ins { return []api.Ins{byImm(api.OpAdd, 3, c), byImm(api.OpSub, 3, -c)} }

// TestNumberMoved (P10.3): an Imm, where the end that it drives towards the ends of 64 bits is known, and where it is not.
func TestNumberMoved(t *testing.T) {
	n, two := tags{x: num()}, tags{x: num(), y: num()}
	for _, c := range []int{0, 1, -1, 7, 1<<31 - 1, 1 - 1<<31} {
		upper, lower := cons(con(x, 0, 5), con(y, x, 3)), cons(con(0, x, 5), con(x, y, 3))
		above, below := cons(con(x, 0, 5+c), con(y, x, 3-c)), cons(con(0, x, 5-c), con(x, y, 3+c))
		if c > 0 {
			below = cons(con(0, y, 8)) // r3 may wrap
		}
		if c < 0 {
			above = cons(con(y, 0, 8))
		}
		for _, i := range moved(c) {
			wantIs(t, doing(of(t, n, ranged(x, -3, 5)), i), of(t, n, ranged(x, c-3, c+5)))
			wantIs(t, doing(of(t, two, upper), i), of(t, two, above))
			wantIs(t, doing(of(t, two, lower), i), of(t, two, below))
			if c != 0 {
				wantIs(t, doing(of(t, two, cons(con(x, y, 3))), i), of(t, two))
			}
		}
	}
	wantSame(t, doing(of(t, two, cons(con(x, y, 3))), byImm(api.OpAdd, 3, 0)))
	wantIs(t, doing(of(t, n, ranged(x, 0, 9)), byImm(api.OpSub, 3, -1<<31)), of(t, n, ranged(x, 1<<31, 1<<31+9)))
	wantIs(t, doing(of(t, n, ranged(x, 0, 9)), byImm(api.OpAdd, 3, -1<<31)), of(t, n, ranged(x, -1<<31, 9-1<<31)))
	wantIs(t, doing(of(t, n, exactly(x, most)), byImm(api.OpAdd, 3, 1)), of(t, n, cons(con(0, x, -most))))
	wantIs(t, doing(of(t, n, exactly(x, -most)), byImm(api.OpSub, 3, 1)), of(t, n, cons(con(x, 0, -most))))
}

// TestPointerMoved (P10.3): an Imm, at -MaxOff and MaxOff and one past them, and with ends that are not known.
func TestPointerMoved(t *testing.T) {
	const far = api.MaxOff
	for _, k := range []api.Tag{kind(api.KindStack), kind(api.KindCtx), kind(api.KindData), row(1)} {
		l := tags{x: k}
		for _, c := range []struct{ lo, hi, by int }{{0, 0, far}, {0, 0, -far}, {-far, far, 0}, {-far, 5, far - 5}, {-5, far, 5 - far}, {5, 9, -far - 5}, {-9, -5, far + 5}, {-1, 1, 7}, {far + 3, far + 9, -9}, {-far - 9, -far - 3, 9}, {-far, far - 1, 1}, {1 - far, far, -1}} {
			for _, i := range moved(c.by) {
				wantIs(t, doing(of(t, l, ranged(x, c.lo, c.hi)), i), of(t, l, ranged(x, c.lo+c.by, c.hi+c.by)))
			}
		}
		for _, c := range []struct{ lo, hi, by int }{{0, 0, far + 1}, {0, 0, -far - 1}, {-far, 5, far - 4}, {-5, far, 4 - far}, {-far, far, 1}, {-far, far, -1}, {far + 1, far + 1, 0}, {-far - 1, 0, 0}, {0, 0, 1<<31 - 1}, {0, 0, 1 - 1<<31}, {most, most, -1 << 30}} {
			wantTraps(t, api.TrapOff, of(t, l, ranged(x, c.lo, c.hi)), moved(c.by)...)
		}
		for _, by := range []int{0, 1, -1} {
			for _, cs := range [][]api.Con{cons(con(x, 0, 5)), cons(con(0, x, 5)), cons(con(x, 1, 5), con(1, x, 5)), nil} {
				wantTraps(t, api.TrapOff, of(t, l, cs), moved(by)...)
			}
		}
	}
	l := tags{x: kind(api.KindCtx), y: num(), slot31: num()}
	s := of(t, l, ranged(x, 0, 9), cons(con(x, 1, -2), con(y, x, 3), con(x, slot31, 1), con(59, x, 8)))
	for _, i := range moved(2) {
		wantIs(t, doing(s, i), of(t, l, ranged(x, 2, 11), cons(con(x, 1, 0), con(y, x, 1), con(x, slot31, 3), con(59, x, 6))))
	}
}

// TestSumOfNumbers (P10.3): renewed, if both sums of ends are within 64 bits, at their ends and one past them; else freed.
func TestSumOfNumbers(t *testing.T) {
	two, three := tags{x: num(), y: num()}, tags{x: num(), y: num(), z: num()}
	add := byReg(api.OpAdd, 3, 4)
	wantIs(t, doing(of(t, two, ranged(x, -9, 5), ranged(y, 1, 2)), add), of(t, two, ranged(x, -8, 7), ranged(y, 1, 2), cons(con(x, y, 5), con(y, x, 9))))
	wantIs(t, doing(of(t, two, upTo(x, 0), from(y, 0)), add), of(t, two, from(y, 0), cons(con(x, y, 0))))
	wantIs(t, doing(of(t, two, upTo(x, 1), from(y, 0)), add), of(t, two, from(y, 0)))
	wantIs(t, doing(of(t, two, upTo(x, 0), from(y, -1)), add), of(t, two, from(y, -1)))
	wantIs(t, doing(of(t, two, from(x, 0), upTo(y, 0)), add), of(t, two, upTo(y, 0), cons(con(y, x, 0))))
	wantIs(t, doing(of(t, two, from(x, -1), upTo(y, 0)), add), of(t, two, upTo(y, 0)))
	wantIs(t, doing(of(t, two, from(x, 0), upTo(y, 1)), add), of(t, two, upTo(y, 1)))
	wantIs(t, doing(of(t, three, cons(con(x, z, 3), con(59, x, 4)), exactly(y, 0)), add), of(t, three, cons(con(x, z, 3), con(59, x, 4)), exactly(y, 0)))
	for _, cs := range [][]api.Con{ranged(y, 0, 1), ranged(y, -1, 0), exactly(y, 1), exactly(y, -1), nil} {
		wantIs(t, doing(of(t, three, cons(con(x, z, 3)), cs), add), of(t, three, cs))
	}
	wantIs(t, doing(of(t, two, exactly(x, most), exactly(y, most)), add), of(t, two, exactly(y, most), cons(con(x, y, most), con(y, x, -most), con(0, x, -most))))
	double := byReg(api.OpAdd, 3, 3)
	wantIs(t, doing(of(t, two, ranged(x, -1, 3), cons(con(x, y, 1))), double), of(t, two, ranged(x, -2, 6), cons(con(x, y, 4), con(0, y, 2))))
	wantIs(t, doing(of(t, two, cons(con(x, y, 1))), double), of(t, two))
}

// every is a shape with bounds of a register and the length, a slot and a ghost; x is from 0 to 4, y 1 or 2.
func every(t *testing.T, a, b api.Tag) (*shape.Shape, tags, []api.Con) {
	t.Helper()
	l := tags{x: a, y: b, slot31: num()}
	s := of(t, l, ranged(x, 0, 4), ranged(y, 1, 2), cons(con(x, 1, -5), con(slot31, x, 7), con(59, y, 1)))
	return s, l, append(ranged(y, 1, 2), con(0, 1, -5), con(slot31, 0, 11), con(slot31, 1, 2), con(59, y, 1))
}

// TestRenewed (P10.3): what is known of a sum and of a difference, and of the other variables behind them.
func TestRenewed(t *testing.T) {
	for _, k := range []api.Tag{num(), kind(api.KindCtx), row(1)} {
		s, l, left := every(t, k, num())
		wantIs(t, doing(s, byReg(api.OpAdd, 3, 4)), of(t, l, left, ranged(x, 1, 6), cons(con(x, y, 4), con(y, x, 0), con(x, 1, -3), con(slot31, x, 6))))
		wantIs(t, doing(s, byReg(api.OpSub, 3, 4)), of(t, l, left, ranged(x, -2, 3), cons(con(x, 1, -6), con(slot31, x, 9))))
	}
	less := of(t, tags{x: num(), y: num()}, ranged(x, 0, 9), ranged(y, 0, 9), cons(con(x, y, -1), con(y, x, 3)))
	wantIs(t, doing(less, byReg(api.OpSub, 3, 4)), of(t, tags{x: num(), y: num()}, ranged(x, -3, -1), ranged(y, 1, 9), cons(con(x, y, -2), con(y, x, 12))))
}

// TestDifferenceOfNumbers (P10.3): as of sums; of a register and itself it is 0.
func TestDifferenceOfNumbers(t *testing.T) {
	two, three := tags{x: num(), y: num()}, tags{x: num(), y: num(), z: num()}
	sub := byReg(api.OpSub, 3, 4)
	up, down := cons(con(x, z, 3)), cons(con(z, x, 3))
	wantIs(t, doing(of(t, two, ranged(x, -9, 5), ranged(y, 1, 2)), sub), of(t, two, ranged(x, -11, 4), ranged(y, 1, 2), cons(con(x, y, 3), con(y, x, 13))))
	wantIs(t, doing(of(t, three, from(x, 0), from(y, 0), up), sub), of(t, three, from(y, 0), from(z, -3), up))
	wantIs(t, doing(of(t, three, from(x, -1), from(y, 0), up), sub), of(t, three, from(y, 0), from(z, -4), up))
	wantIs(t, doing(of(t, three, from(x, -2), from(y, 0), up), sub), of(t, three, from(y, 0), from(z, -5)))
	wantIs(t, doing(of(t, three, from(x, 0), from(y, -1), up), sub), of(t, three, from(y, -1), from(z, -3)))
	wantIs(t, doing(of(t, three, upTo(x, -1), upTo(y, 0), down), sub), of(t, three, upTo(y, 0), upTo(z, 2), down))
	wantIs(t, doing(of(t, three, upTo(x, 0), upTo(y, 0), down), sub), of(t, three, upTo(y, 0), upTo(z, 3)))
	wantIs(t, doing(of(t, three, upTo(x, -1), upTo(y, 1), down), sub), of(t, three, upTo(y, 1), upTo(z, 2)))
	wantIs(t, doing(of(t, three, up, exactly(y, 0)), sub), of(t, three, up, exactly(y, 0)))
	wantIs(t, doing(of(t, three, up, ranged(y, 0, 1)), sub), of(t, three, ranged(y, 0, 1)))
	for _, cs := range [][]api.Con{nil, ranged(x, 1, 3), from(x, 7)} {
		wantIs(t, doing(of(t, two, cs, cons(con(y, 0, 9))), byReg(api.OpSub, 3, 3)), of(t, two, exactly(x, 0), cons(con(y, 0, 9))))
	}
}

func upTo(v, n int) []api.Con { return cons(con(v, 0, n)) }

func from(v, n int) []api.Con { return cons(con(0, v, -n)) }

// TestPointerAndNumber (P10.3): sums in either order and differences, at -MaxOff and MaxOff and one past them, and with ends that are not known.
func TestPointerAndNumber(t *testing.T) {
	const far = api.MaxOff
	for _, k := range []api.Tag{kind(api.KindStack), kind(api.KindCtx), kind(api.KindData), row(1)} {
		one, other := tags{x: k, y: num()}, tags{x: num(), y: k}
		try := func(trap bool, a, b []api.Con, lo, hi int) {
			t.Helper()
			for _, l := range []tags{one, other} {
				s := of(t, l, a, b)
				if trap {
					wantTraps(t, api.TrapOff, s, byReg(api.OpAdd, 3, 4))
					continue
				}
				now, e := doing(s, byReg(api.OpAdd, 3, 4)).held(t, program())
				if e != api.OK || now.Tag(x) != k || now.Tag(y) != l[y] || now.Span(x) != (api.Span{Lo: lo, Hi: hi}) {
					t.Errorf("%s: %s, %v; want from %d to %d", told(s), told(now), e, lo, hi)
				}
			}
			mirrored := make([]api.Con, len(b))
			for n, c := range b {
				mirrored[n] = con(c.J, c.I, c.C)
			}
			s := of(t, one, a, mirrored)
			if trap {
				wantTraps(t, api.TrapOff, s, byReg(api.OpSub, 3, 4))
			} else if now, e := doing(s, byReg(api.OpSub, 3, 4)).held(t, program()); e != api.OK || now.Tag(x) != k || now.Span(x) != (api.Span{Lo: lo, Hi: hi}) {
				t.Errorf("%s: %s, %v; want from %d to %d", told(s), told(now), e, lo, hi)
			}
			wantTraps(t, api.TrapKind, of(t, other, a, b), byReg(api.OpSub, 3, 4))
		}
		try(false, ranged(x, 0, 5), ranged(y, 1, 2), 1, 7)
		try(false, ranged(x, 0, far-7), ranged(y, -9, 7), -9, far)
		try(true, ranged(x, 0, far-7), ranged(y, -9, 8), 0, 0)
		try(false, ranged(x, 9-far, 7), ranged(y, -9, 7), -far, 14)
		try(true, ranged(x, 9-far, 7), ranged(y, -10, 7), 0, 0)
		try(false, exactly(x, most), exactly(y, far-most), far, far)
		try(true, exactly(x, most), exactly(y, far+1-most), 0, 0)
		for _, cs := range [][]api.Con{upTo(x, 3), from(x, 3), nil} {
			try(true, cs, ranged(y, 0, 0), 0, 0)
			try(true, ranged(y, 0, 0), cs, 0, 0)
		}
	}
	l := tags{x: num(), y: kind(api.KindCtx)}
	wantIs(t, doing(of(t, l, cons(con(x, 1, -8)), ranged(x, 0, 40), ranged(y, 4, 4)), byReg(api.OpAdd, 3, 4)),
		of(t, tags{x: kind(api.KindCtx), y: kind(api.KindCtx)}, ranged(x, 4, 44), exactly(y, 4), cons(con(x, 1, -4), con(0, 1, -8))))
	wantIs(t, doing(of(t, tags{x: num()}, ranged(x, -9, 5), cons(con(x, 1, 2))), byReg(api.OpAdd, 3, 10)),
		of(t, tags{x: kind(api.KindStack)}, ranged(x, 247, 261), cons(con(x, 1, 258))))
	wantIs(t, doing(of(t, tags{x: num()}, exactly(x, far-256)), byReg(api.OpAdd, 3, 10)), of(t, tags{x: kind(api.KindStack)}, exactly(x, far)))
	wantTraps(t, api.TrapOff, of(t, tags{x: num()}, exactly(x, far-255)), byReg(api.OpAdd, 3, 10))
	wantTraps(t, api.TrapOff, of(t, tags{x: num()}), byReg(api.OpAdd, 3, 10))
	wantIs(t, doing(of(t, tags{x: num()}, exactly(x, -far-256)), byReg(api.OpAdd, 3, 10)), of(t, tags{x: kind(api.KindStack)}, exactly(x, -far)))
	wantTraps(t, api.TrapOff, of(t, tags{x: num()}, exactly(x, -far-257)), byReg(api.OpAdd, 3, 10))
}

// TestPointers (P10.3): the distance of two pointers into one region, whatever is known of them; of one and itself; of r10.
func TestPointers(t *testing.T) {
	sub := byReg(api.OpSub, 3, 4)
	for _, k := range []api.Tag{kind(api.KindStack), kind(api.KindCtx), kind(api.KindData)} {
		two, behind := tags{x: k, y: k}, tags{x: num(), y: k}
		wantIs(t, doing(of(t, two), sub), of(t, behind))
		wantIs(t, doing(of(t, two, upTo(x, 3)), sub), of(t, behind))
		wantIs(t, doing(of(t, two, ranged(x, 0, 9), ranged(y, 2, 3)), sub), of(t, behind, ranged(x, -3, 7), ranged(y, 2, 3), cons(con(x, y, 5), con(y, x, 6))))
		wantIs(t, doing(of(t, two, cons(con(x, y, 5), con(y, x, -1))), sub), of(t, behind, ranged(x, 1, 5)))
		wantIs(t, doing(of(t, two, exactly(x, most), exactly(y, -most)), sub), of(t, behind, exactly(y, -most), cons(con(0, x, -most))))
		wantIs(t, doing(of(t, two, upTo(y, 4)), byReg(api.OpSub, 3, 3)), of(t, behind, exactly(x, 0), upTo(y, 4)))
	}
	stack := tags{x: kind(api.KindStack)}
	for _, cs := range [][]api.Con{ranged(x, 0, 300), upTo(x, 3), cons(con(x, 1, 4)), nil} {
		s := of(t, stack, cs)
		want, e := s.Assign(x, x, -256)
		if now, f := doing(s, byReg(api.OpSub, 3, 10)).held(t, program()); e != api.OK || f != api.OK || now.Tag(x) != num() || !now.Same(want) {
			t.Errorf("%s less r10: %s, %v", told(s), told(now), f)
		}
	}
	wantIs(t, doing(of(t, stack, ranged(x, 200, 260)), byReg(api.OpSub, 3, 10)), of(t, tags{x: num()}, ranged(x, -56, 4)))
	for _, l := range []tags{{x: row(0), y: row(0)}, {x: row(1), y: row(0)}, {x: kind(api.KindCtx), y: kind(api.KindData)}, {x: maybe(0), y: maybe(0)}} {
		wantTraps(t, api.TrapKind, of(t, l), sub)
	}
	wantTraps(t, api.TrapKind, of(t, tags{x: row(0)}), byReg(api.OpSub, 3, 3))
	wantTraps(t, api.TrapKind, of(t, tags{x: kind(api.KindCtx)}, exactly(x, 0)), byReg(api.OpSub, 3, 10), byReg(api.OpAdd, 3, 10), byReg(api.OpAdd, 3, 3))
}

// TestReckoned (P10.3): what is not linear is freed, and has the span that chapter 6 says, of both operands, of itself, of an Imm.
func TestReckoned(t *testing.T) {
	two := tags{x: num(), y: num()}
	spans := [][2]int{{0, 0}, {1, 9}, {-9, -1}, {-3, 5}, {2, 2}, {0, 1 << 32}, {1 << 40, 1<<40 + 5}, {-most, most}, {30, 63}}
	for _, a := range spans {
		for _, b := range spans {
			s := of(t, two, ranged(x, a[0], a[1]), ranged(y, b[0], b[1]))
			ra, rb := span.Of(a[0], a[1]), span.Of(b[0], b[1])
			for op := api.OpMul; op <= api.OpNeg; op++ {
				divides := op >= api.OpDiv && op <= api.OpSmod
				if i := byReg(op, 3, 4); op == api.OpNeg {
					wantFreed(t, s, api.Ins{Op: op, Dst: 3}, b, span.Alu(op, false, ra, ra))
				} else if divides && !span.NotZero(false, rb) {
					wantTraps(t, api.TrapDiv, s, i)
				} else if op != api.OpMod || b[0] < 1 {
					wantFreed(t, s, i, b, span.Alu(op, false, ra, rb))
				}
				if i := byReg(op, 3, 3); op == api.OpNeg || divides && !span.NotZero(false, ra) {
					if op != api.OpNeg {
						wantTraps(t, api.TrapDiv, s, i)
					}
				} else {
					wantFreed(t, s, i, b, span.Alu(op, false, ra, ra))
				}
				for _, c := range []int{1, 3, 63, -7} {
					if op == api.OpNeg || c == -7 && op >= api.OpLsh && op <= api.OpArsh {
						continue
					}
					wantFreed(t, s, byImm(op, 3, c), b, span.Alu(op, false, ra, span.Of(c, c)))
				}
			}
		}
	}
	wantTraps(t, api.TrapDiv, of(t, two), byReg(api.OpDiv, 3, 4), byReg(api.OpMod, 3, 4), byReg(api.OpSdiv, 3, 4), byReg(api.OpSmod, 3, 4), byReg(api.OpDiv, 3, 3))
}

// wantFreed: r3 has nothing but this span then, and r4 still that from the one to the other number.
func wantFreed(t *testing.T, s *shape.Shape, i api.Ins, b [2]int, r api.Span) {
	t.Helper()
	wantIs(t, doing(s, i), of(t, tags{x: num(), y: num()}, ranged(y, b[0], b[1]), spanned(x, r)))
}

// TestRest (P10.3): OpMod by another register that is 1 at least is below that one.
func TestRest(t *testing.T) {
	two := tags{x: num(), y: num()}
	mod := byReg(api.OpMod, 3, 4)
	wantIs(t, doing(of(t, two, from(y, 1)), mod), of(t, two, from(x, 0), from(y, 1), cons(con(x, y, -1))))
	wantIs(t, doing(of(t, two, ranged(y, 1, 9), ranged(x, 0, 3)), mod), of(t, two, ranged(x, 0, 3), ranged(y, 1, 9), cons(con(x, y, -1))))
	wantIs(t, doing(of(t, two, cons(con(y, 1, 0)), from(y, 1)), mod), of(t, two, from(x, 0), from(y, 1), cons(con(y, 1, 0), con(x, y, -1))))
	wantIs(t, doing(of(t, two, upTo(y, -1)), mod), of(t, two, upTo(y, -1)))
	wantTraps(t, api.TrapDiv, of(t, two, from(y, 0)), mod)
	wantIs(t, doing(of(t, two, from(x, 1)), byReg(api.OpMod, 3, 3)), of(t, two, from(x, 0)))
	wantIs(t, doing(of(t, two, from(y, 1)), byImm(api.OpMod, 3, 7)), of(t, two, ranged(x, 0, 6), from(y, 1)))
	wantIs(t, doing(of(t, two, from(y, 1)), byReg(api.OpSmod, 3, 4)), of(t, two, from(y, 1)))
}

// TestExtended (P10.3): OpMovs is OpMov, where both ends are within its bits, also of itself; else it has chapter 6's span.
func TestExtended(t *testing.T) {
	two := tags{x: num(), y: num()}
	for _, size := range []int{8, 16, 32} {
		h := 1 << (size - 1)
		i := api.Ins{Op: api.OpMovs, Reg: true, Size: size, Dst: 3, Src: 4}
		for _, c := range [][2]int{{-h, h - 1}, {0, 5}, {-3, -2}, {h - 1, h - 1}, {-h, -h}} {
			wantIs(t, doing(of(t, two, ranged(y, c[0], c[1]), from(x, 7)), i), of(t, two, ranged(y, c[0], c[1]), same(x, y)))
		}
		for _, c := range [][2]int{{-h - 1, 0}, {0, h}, {h, h}, {-h - 1, -h - 1}, {-most, most}} {
			wantIs(t, doing(of(t, two, ranged(y, c[0], c[1])), i), of(t, two, ranged(y, c[0], c[1]), spanned(x, span.Extend(size, false, span.Of(c[0], c[1])))))
		}
		wantIs(t, doing(of(t, two, upTo(y, 4)), i), of(t, two, upTo(y, 4), ranged(x, -h, h-1)))
		wantIs(t, doing(of(t, tags{y: num()}, from(y, 4)), i), of(t, two, from(y, 4), ranged(x, -h, h-1)))
		i.Src = 3
		wantSame(t, doing(of(t, two, ranged(x, -h, h-1), cons(con(x, y, 1))), i))
		wantIs(t, doing(of(t, two, ranged(x, -h, h), cons(con(x, y, 1))), i), of(t, two, ranged(x, -h, h-1), from(y, -h-1)))
	}
}

// spanned says that a variable is in a span.
func spanned(v int, s api.Span) []api.Con {
	var cs []api.Con
	if !s.NoHi {
		cs = append(cs, upTo(v, s.Hi)...)
	}
	if !s.NoLo {
		cs = append(cs, from(v, s.Lo)...)
	}
	return cs
}

// TestTurned (P10.3): OpLe of 64 bits does nothing; all else of its kind has chapter 6's span.
func TestTurned(t *testing.T) {
	two := tags{x: num(), y: num()}
	for _, c := range [][2]int{{0, 0}, {1, 1}, {3, 9}, {0, 1<<16 - 1}, {0, 1 << 16}, {-1, 5}, {1 << 32, 1<<32 + 4}, {-most, most}} {
		s := of(t, two, ranged(x, c[0], c[1]), cons(con(x, y, 0)))
		for _, size := range []int{16, 32, 64} {
			for _, op := range []int{api.OpLe, api.OpBe, api.OpBswap} {
				i := api.Ins{Op: op, Size: size, Dst: 3}
				if op == api.OpLe && size == 64 {
					wantSame(t, doing(s, i))
					continue
				}
				wantIs(t, doing(s, i), of(t, two, from(y, c[0]), spanned(x, span.Swap(size, op != api.OpLe, span.Of(c[0], c[1])))))
			}
		}
	}
}
