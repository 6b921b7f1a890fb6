package step_test

import (
	"math"
	"testing"

	"warrant/api"
	"warrant/shape"
	"warrant/word"
)

// TestJa (P10.8): it goes one way.
func TestJa(t *testing.T) {
	for _, i := range []api.Ins{{Op: api.OpJa, Off: 3}, {Op: api.OpJa, Narrow: true, Imm: -7}} {
		for _, s := range []*shape.Shape{of(t, nil), small(t, num(), row(1)), small(t, maybe(0), kind(api.KindCtx))} {
			wantSame(t, taking(s, i, true))
			wantDead(t, taking(s, i, false))
		}
	}
}

// conditions are all conditional jumps, of a second operand.
func conditions(dst int, second api.Ins) []api.Ins {
	var l []api.Ins
	for op := api.OpJeq; op <= api.OpJset; op++ {
		i := second
		i.Op, i.Dst, i.Off = op, dst, 5
		l = append(l, i, narrow(i))
	}
	return l
}

// compares tells which kinds a condition takes.
func compares(i api.Ins, a, b api.Tag) bool {
	switch {
	case isNum(a) && isNum(b):
		return true
	case i.Narrow || i.Op == api.OpJset:
		return false
	case isFixed(a) && a.Kind == b.Kind:
		return true
	}
	row := a.Kind == api.KindRow || a.Kind == api.KindMaybe
	return row && !i.Reg && i.Imm == 0 && (i.Op == api.OpJeq || i.Op == api.OpJne)
}

// TestComparedKinds (P10.8): every condition, narrow and not, taken and not, with another register, the same one, r10, 0 and another number, over each pair of kinds.
func TestComparedKinds(t *testing.T) {
	try := func(s *shape.Shape, i api.Ins, a, b api.Tag) {
		t.Helper()
		for _, taken := range []bool{true, false} {
			if !compares(i, a, b) {
				wantTrap(t, api.TrapKind, taking(s, i, taken))
			} else if now, e := taking(s, i, taken).held(t, program()); e != api.OK {
				t.Errorf("%s: %s, %v", taking(s, i, taken).told(), told(now), e)
			}
		}
	}
	for _, a := range kinds() {
		for _, b := range kinds() {
			s := small(t, a, b)
			for _, i := range conditions(3, api.Ins{Reg: true, Src: 4}) {
				try(s, i, a, b)
			}
		}
		s, stack := small(t, a, num()), kind(api.KindStack)
		for _, i := range conditions(3, api.Ins{Reg: true, Src: 3}) {
			try(s, i, a, a)
		}
		for _, i := range conditions(3, api.Ins{Reg: true, Src: 10}) {
			try(s, i, a, stack)
		}
		for _, i := range conditions(10, api.Ins{Reg: true, Src: 3}) {
			try(s, i, stack, a)
		}
		for _, c := range []int{0, 1, -1} {
			for _, i := range conditions(3, api.Ins{Imm: c}) {
				try(s, i, a, num())
			}
		}
	}
	for _, i := range conditions(10, api.Ins{Reg: true, Src: 10}) {
		try(of(t, nil), i, kind(api.KindStack), kind(api.KindStack))
	}
	for _, i := range conditions(10, api.Ins{Imm: 0}) {
		try(of(t, nil), i, kind(api.KindStack), num())
	}
}

// TestNull (P10.8): a row, and what may be one, against 0, on both edges.
func TestNull(t *testing.T) {
	l := tags{x: row(1), y: num()}
	s := of(t, l, ranged(x, 1, 3), cons(con(y, x, 0)))
	for _, table := range []int{0, 1, 7} {
		perhaps := of(t, tags{x: maybe(table), y: num()}, ranged(y, 1, 3))
		for _, c := range []struct {
			op          int
			taken, null bool
		}{{api.OpJeq, true, true}, {api.OpJeq, false, false}, {api.OpJne, true, false}, {api.OpJne, false, true}} {
			i := byImm(c.op, 3, 0)
			if c.null {
				wantDead(t, taking(s, i, c.taken))
				wantIs(t, taking(perhaps, i, c.taken), of(t, tags{x: num(), y: num()}, exactly(x, 0), ranged(y, 1, 3)))
			} else {
				wantSame(t, taking(s, i, c.taken))
				wantIs(t, taking(perhaps, i, c.taken), of(t, tags{x: row(table), y: num()}, exactly(x, 0), ranged(y, 1, 3)))
			}
		}
	}
}

// both is a shape with two numbers, or two pointers.
func both(t *testing.T, k api.Tag, cs ...[]api.Con) *shape.Shape {
	t.Helper()
	return of(t, tags{x: k, y: k}, cs...)
}

// comparisons are those of r3 and r4, and what they say of the two on the edge where they hold; OpJne says nothing by itself.
func comparisons() map[int][]api.Con {
	return map[int][]api.Con{api.OpJeq: same(x, y), api.OpJne: nil, api.OpJsgt: cons(con(y, x, -1)), api.OpJsge: cons(con(y, x, 0)), api.OpJslt: cons(con(x, y, -1)), api.OpJsle: cons(con(x, y, 0))}
}

// contraries are the operations that hold on the other edge.
func contraries() map[int]int {
	return map[int]int{api.OpJeq: api.OpJne, api.OpJne: api.OpJeq, api.OpJgt: api.OpJle, api.OpJle: api.OpJgt, api.OpJge: api.OpJlt, api.OpJlt: api.OpJge, api.OpJsgt: api.OpJsle, api.OpJsle: api.OpJsgt, api.OpJsge: api.OpJslt, api.OpJslt: api.OpJsge}
}

// wantRefined: on the edge where an operation holds, of it and of its contrary, the shape has these bounds besides; dead, if that leaves nothing.
func wantRefined(t *testing.T, s *shape.Shape, i api.Ins, cs ...[]api.Con) {
	t.Helper()
	zone := s.Zone
	for _, c := range cs {
		now, e := zone.With(c...)
		if e != api.OK {
			t.Fatal(e)
		}
		zone = now
	}
	c := s.Claim()
	want, e := shape.Make(c.Regs, c.Stack, zone)
	if e != api.OK {
		t.Fatal(e)
	}
	wantIs(t, taking(s, i, true), want)
	i.Op = contraries()[i.Op]
	wantIs(t, taking(s, i, false), want)
}

// TestSigned (P10.9): numbers and pointers, signed and equal: spans that lie below, on and above each other, and that are not known.
func TestSigned(t *testing.T) {
	for _, k := range []api.Tag{num(), kind(api.KindStack), kind(api.KindCtx), kind(api.KindData)} {
		for _, c := range [][]api.Con{nil, append(ranged(x, 0, 5), ranged(y, 6, 9)...), append(ranged(x, 0, 5), ranged(y, 5, 9)...), append(ranged(x, 0, 9), ranged(y, 3, 4)...), append(ranged(x, 5, 9), ranged(y, 0, 4)...), append(exactly(x, 3), exactly(y, 3)...), upTo(x, -4), from(y, 8), cons(con(x, y, 4)), cons(con(x, y, -2)), append(exactly(x, most), exactly(y, -most)...)} {
			s := both(t, k, c)
			for op, says := range comparisons() {
				if op != api.OpJne {
					wantRefined(t, s, byReg(op, 3, 4), says)
				}
				if k != num() {
					for _, other := range []struct{ plain, signed int }{{api.OpJgt, api.OpJsgt}, {api.OpJge, api.OpJsge}, {api.OpJlt, api.OpJslt}, {api.OpJle, api.OpJsle}} {
						wantRefined(t, s, byReg(other.plain, 3, 4), comparisons()[other.signed])
					}
				}
			}
		}
	}
	for _, c := range []int{0, 7, -7, 1<<31 - 1, -1 << 31} {
		for _, s := range []*shape.Shape{both(t, num()), both(t, num(), ranged(x, -7, 7), cons(con(x, y, 1))), both(t, num(), exactly(x, c))} {
			wantRefined(t, s, byImm(api.OpJeq, 3, c), upTo(x, c), from(x, c))
			wantRefined(t, s, byImm(api.OpJsgt, 3, c), from(x, c+1))
			wantRefined(t, s, byImm(api.OpJsge, 3, c), from(x, c))
			wantRefined(t, s, byImm(api.OpJslt, 3, c), upTo(x, c-1))
			wantRefined(t, s, byImm(api.OpJsle, 3, c), upTo(x, c))
		}
	}
}

// TestOneVariable (P10.9): a register and itself, and r10 and itself: the condition is known, but without signs not where nothing is known of the register.
func TestOneVariable(t *testing.T) {
	for op := api.OpJeq; op < api.OpJset; op++ {
		for _, s := range []*shape.Shape{both(t, num(), from(x, 0)), both(t, num(), ranged(x, -5, -1)), both(t, kind(api.KindCtx)), both(t, kind(api.KindStack), upTo(x, 3))} {
			for _, r := range []int{3, 10} {
				if r == 10 && s.Tag(x) != kind(api.KindStack) {
					continue
				}
				i := byReg(op, r, r)
				holds := word.Holds(op, false, 1, 1)
				for _, taken := range []bool{true, false} {
					if taken == holds {
						wantSame(t, taking(s, i, taken))
					} else {
						wantDead(t, taking(s, i, taken))
					}
				}
			}
		}
	}
	open := both(t, num(), ranged(y, -1, 1), upTo(x, 3))
	for _, op := range []int{api.OpJgt, api.OpJge, api.OpJlt, api.OpJle} {
		for _, taken := range []bool{true, false} {
			wantSame(t, taking(open, byReg(op, 3, 3), taken))
			wantSame(t, taking(open, byReg(op, 4, 4), taken))
		}
	}
}

// TestStackEnds (P10.9): r10 as either operand, which is 256.
func TestStackEnds(t *testing.T) {
	for _, s := range []*shape.Shape{both(t, kind(api.KindStack)), both(t, kind(api.KindStack), ranged(x, 0, 300)), both(t, kind(api.KindStack), exactly(x, 256)), both(t, kind(api.KindStack), upTo(x, 256)), both(t, kind(api.KindStack), from(x, 256), upTo(y, 9))} {
		wantRefined(t, s, byReg(api.OpJeq, 3, 10), upTo(x, 256), from(x, 256))
		wantRefined(t, s, byReg(api.OpJeq, 10, 3), from(x, 256), upTo(x, 256))
		for _, op := range []int{api.OpJslt, api.OpJlt} {
			wantRefined(t, s, byReg(op, 3, 10), upTo(x, 255))
			wantRefined(t, s, byReg(op, 10, 3), from(x, 257))
		}
		for _, op := range []int{api.OpJsge, api.OpJge} {
			wantRefined(t, s, byReg(op, 3, 10), from(x, 256))
			wantRefined(t, s, byReg(op, 10, 3), upTo(x, 256))
		}
	}
	l := tags{x: kind(api.KindStack)}
	wantIs(t, taking(of(t, l, upTo(x, 256)), byReg(api.OpJne, 3, 10), true), of(t, l, upTo(x, 255)))
	wantIs(t, taking(of(t, l, from(x, 256)), byReg(api.OpJne, 10, 3), true), of(t, l, from(x, 257)))
	wantIs(t, taking(of(t, l, from(x, 255)), byReg(api.OpJne, 10, 3), true), of(t, l, from(x, 255)))
}

// TestUnlike (P10.9): it says something where one is at most the other one: that it is below it; where both are, nothing is left.
func TestUnlike(t *testing.T) {
	for _, k := range []api.Tag{num(), kind(api.KindCtx)} {
		i := byReg(api.OpJne, 3, 4)
		wantRefined(t, both(t, k), i)
		wantRefined(t, both(t, k, cons(con(x, y, 1))), i)
		wantRefined(t, both(t, k, cons(con(x, y, 0))), i, cons(con(x, y, -1)))
		wantRefined(t, both(t, k, cons(con(x, y, -1))), i)
		wantRefined(t, both(t, k, cons(con(y, x, 0))), i, cons(con(y, x, -1)))
		wantRefined(t, both(t, k, cons(con(y, x, 1))), i)
		wantRefined(t, both(t, k, ranged(x, 0, 5), ranged(y, 5, 9)), i, cons(con(x, y, -1)))
		wantDead(t, taking(both(t, k, same(x, y)), i, true))
		wantDead(t, taking(both(t, k, exactly(x, 3), exactly(y, 3)), byReg(api.OpJeq, 3, 4), false))
	}
	for _, c := range []int{0, 7, -7, -1 << 31} {
		i := byImm(api.OpJne, 3, c)
		wantRefined(t, both(t, num(), ranged(x, c-1, c+1)), i)
		wantRefined(t, both(t, num(), from(x, c)), i, from(x, c+1))
		wantRefined(t, both(t, num(), upTo(x, c)), i, upTo(x, c-1))
		wantRefined(t, both(t, num(), from(x, c+1)), i)
		wantDead(t, taking(both(t, num(), exactly(x, c)), i, true))
	}
}

// TestNatural (P10.9): without signs: the greater one is 0 or more, or both are below 0; else nothing is said.
func TestNatural(t *testing.T) {
	low, high := ranged(x, -9, 9), ranged(y, 0, 20)
	for _, c := range []struct {
		a, b, says []api.Con // what x < y says besides x - y <= -1, with <= 0 in the place of -1 of x <= y; nil: nothing at all
	}{
		{low, high, from(x, 0)}, {nil, from(y, 0), from(x, 0)}, {nil, high, from(x, 0)}, {upTo(x, -1), from(y, 0), from(x, 0)}, {from(x, 3), from(y, 0), from(x, 0)}, {nil, exactly(y, 0), from(x, 0)},
		{upTo(x, -1), upTo(y, -1), upTo(x, 0)}, {ranged(x, -9, -2), ranged(y, -5, -1), upTo(x, 0)},
		{upTo(x, 0), upTo(y, -1), nil}, {upTo(x, -1), upTo(y, 0), nil}, {low, from(y, -1), nil}, {nil, nil, nil}, {from(x, 0), upTo(y, 5), nil}, {nil, upTo(y, -1), nil}, {from(x, 0), upTo(y, -1), nil},
	} {
		s := both(t, num(), c.a, c.b)
		below, atMost := cons(con(x, y, -1)), cons(con(x, y, 0))
		if c.says == nil {
			below, atMost = nil, nil
		}
		wantRefined(t, s, byReg(api.OpJlt, 3, 4), c.says, below)
		wantRefined(t, s, byReg(api.OpJgt, 4, 3), c.says, below)
		wantRefined(t, s, byReg(api.OpJle, 3, 4), c.says, atMost)
		wantRefined(t, s, byReg(api.OpJge, 4, 3), c.says, atMost)
	}
	for _, c := range [][]api.Con{nil, ranged(x, -9, 9), from(x, 0)} {
		s := both(t, num(), c)
		wantRefined(t, s, byImm(api.OpJlt, 3, 5), from(x, 0), upTo(x, 4))
		wantRefined(t, s, byImm(api.OpJle, 3, 0), from(x, 0), upTo(x, 0))
		wantDead(t, taking(s, byImm(api.OpJlt, 3, 0), true))
	}
	above, below := both(t, num(), from(x, 0)), both(t, num(), upTo(x, -1))
	wantRefined(t, above, byImm(api.OpJgt, 3, 5), from(x, 6))
	wantRefined(t, above, byImm(api.OpJge, 3, 0))
	wantDead(t, taking(above, byImm(api.OpJgt, 3, -5), true)) // -5 is great
	wantRefined(t, above, byImm(api.OpJlt, 3, -5))
	wantRefined(t, below, byImm(api.OpJlt, 3, -5), upTo(x, -6))
	wantRefined(t, below, byImm(api.OpJge, 3, -5), from(x, -5))
	wantRefined(t, below, byImm(api.OpJgt, 3, 5))
	wantRefined(t, both(t, num()), byImm(api.OpJgt, 3, 5))
}

// TestJset (P10.9): it says nothing, on either edge.
func TestJset(t *testing.T) {
	for _, s := range []*shape.Shape{both(t, num()), both(t, num(), exactly(x, 0), exactly(y, 0)), both(t, num(), exactly(x, 1), exactly(y, 1)), both(t, num(), ranged(x, 0, 9), cons(con(x, y, 0)))} {
		for _, i := range []api.Ins{byReg(api.OpJset, 3, 4), byReg(api.OpJset, 3, 3), byImm(api.OpJset, 3, 1), byImm(api.OpJset, 3, 0), byImm(api.OpJset, 3, -1)} {
			for _, taken := range []bool{true, false} {
				wantSame(t, taking(s, i, taken))
				wantSame(t, taking(s, narrow(i), taken))
			}
		}
	}
}

// TestNarrowSigned (P10.9): signed conditions of low halves, where both numbers are from -2^31 to 2^31 - 1, and one past.
func TestNarrowSigned(t *testing.T) {
	const h = 1 << 31
	for op, says := range comparisons() {
		if op == api.OpJeq || op == api.OpJne {
			continue
		}
		i := narrow(byReg(op, 3, 4))
		for _, c := range [][2]int{{-h, h - 1}, {0, 5}, {-5, -3}, {h - 1, h - 1}, {-h, -h}} {
			s := both(t, num(), ranged(x, c[0], c[1]), ranged(y, -h, h-1))
			wantRefined(t, s, i, says)
			wantRefined(t, both(t, num(), ranged(y, c[0], c[1]), ranged(x, -h, h-1)), i, says)
		}
		for _, cs := range [][]api.Con{ranged(x, -h-1, 0), ranged(x, 0, h), exactly(x, h), from(x, 0), upTo(x, 0), nil} {
			wantRefined(t, both(t, num(), cs, ranged(y, 0, 9)), i)
		}
		for _, cs := range [][]api.Con{ranged(y, -h-1, 0), ranged(y, 0, h), from(y, 0), upTo(y, 0), nil} {
			wantRefined(t, both(t, num(), cs, ranged(x, 0, 9)), i)
		}
	}
	s := both(t, num(), ranged(x, -9, 9))
	wantRefined(t, s, narrow(byImm(api.OpJslt, 3, -3)), upTo(x, -4))
	wantRefined(t, s, narrow(byImm(api.OpJsge, 3, -h)))
	wantRefined(t, both(t, num(), ranged(x, 0, half)), narrow(byImm(api.OpJsgt, 3, 5)))
}

// TestNarrowNatural (P10.9): conditions of low halves without signs, and equal ones, where both numbers are from 0 to 2^32 - 1, and one past; a number counts as its low half.
func TestNarrowNatural(t *testing.T) {
	plain := map[int][]api.Con{api.OpJeq: same(x, y), api.OpJgt: cons(con(y, x, -1)), api.OpJge: cons(con(y, x, 0)), api.OpJlt: cons(con(x, y, -1)), api.OpJle: cons(con(x, y, 0))}
	for op, says := range plain {
		i := narrow(byReg(op, 3, 4))
		for _, c := range [][2]int{{0, half}, {3, 5}, {half, half}, {0, 0}, {1 << 31, 1<<31 + 5}} {
			wantRefined(t, both(t, num(), ranged(x, c[0], c[1]), ranged(y, 0, half)), i, says)
			wantRefined(t, both(t, num(), ranged(y, c[0], c[1]), ranged(x, 0, half)), i, says)
		}
		for _, cs := range [][]api.Con{ranged(x, 0, half+1), from(x, 0), upTo(x, 9), nil} {
			wantRefined(t, both(t, num(), cs, ranged(y, 0, half)), i)
		}
		for _, cs := range [][]api.Con{ranged(y, 0, half+1), from(y, 0), upTo(y, 9), nil} {
			wantRefined(t, both(t, num(), cs, ranged(x, 0, half)), i)
		}
		if op != api.OpJeq {
			wantRefined(t, both(t, num(), ranged(x, -1, 9), ranged(y, 0, 9)), i)
		}
	}
	s := both(t, num(), ranged(x, 0, half))
	wantRefined(t, s, narrow(byImm(api.OpJgt, 3, 5)), from(x, 6))
	wantRefined(t, s, narrow(byImm(api.OpJlt, 3, -5)), upTo(x, half-5))
	wantRefined(t, s, narrow(byImm(api.OpJge, 3, -1)), from(x, half))
	wantRefined(t, s, narrow(byImm(api.OpJeq, 3, -1)), exactly(x, half))
	wantRefined(t, s, narrow(byImm(api.OpJle, 3, -1<<31)), upTo(x, 1<<31))
	wantDead(t, taking(s, narrow(byImm(api.OpJgt, 3, -1)), true))
	wantIs(t, taking(s, narrow(byImm(api.OpJne, 3, -1)), true), both(t, num(), ranged(x, 0, half-1)))
	wantIs(t, taking(both(t, num(), ranged(x, 0, 9), ranged(y, 9, 20)), narrow(byReg(api.OpJne, 3, 4)), true), both(t, num(), ranged(x, 0, 9), ranged(y, 9, 20), cons(con(x, y, -1))))
}

// TestNarrowEqual (P10.9): equal and unlike low halves besides, where both numbers are from -2^31 to 2^31 - 1; a number is as it was.
func TestNarrowEqual(t *testing.T) {
	const h = 1 << 31
	i := narrow(byReg(api.OpJeq, 3, 4))
	wantRefined(t, both(t, num(), ranged(x, -1, 9), ranged(y, 0, 9)), i, same(x, y))
	wantRefined(t, both(t, num(), ranged(x, -h, h-1), ranged(y, -h, h-1)), i, same(x, y))
	wantRefined(t, both(t, num(), ranged(x, -h-1, 9), ranged(y, 0, 9)), i)
	wantRefined(t, both(t, num(), ranged(x, -1, 9), ranged(y, 0, h)), i)
	wantRefined(t, both(t, num(), ranged(x, -1, 9)), narrow(byImm(api.OpJeq, 3, -1)), exactly(x, -1))
	wantRefined(t, both(t, num(), ranged(x, -1, 9)), narrow(byImm(api.OpJeq, 3, 4)), exactly(x, 4))
	wantRefined(t, both(t, num(), ranged(x, -1, 1<<31)), narrow(byImm(api.OpJeq, 3, 4)))
	wantIs(t, taking(both(t, num(), ranged(x, -1, 9)), narrow(byImm(api.OpJne, 3, -1)), true), both(t, num(), ranged(x, 0, 9)))
	wantIs(t, taking(both(t, num(), upTo(x, 9)), narrow(byImm(api.OpJne, 3, 9)), true), both(t, num(), upTo(x, 9)))
	wantDead(t, taking(both(t, num(), ranged(x, -9, -2)), narrow(byImm(api.OpJeq, 3, -1)), true))
	wantSame(t, taking(both(t, num(), ranged(x, -1, 9)), narrow(byImm(api.OpJlt, 3, 5)), true))
	wantSame(t, taking(both(t, num(), exactly(x, math.MinInt32)), narrow(byImm(api.OpJge, 3, 0)), false))
}
