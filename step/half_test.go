package step_test

import (
	"testing"

	"warrant/api"
	"warrant/span"
)

// half is the greatest low half.
const half = 1<<32 - 1

// TestMovLow (P10.4): of a register that is small it is OpMov; of a number its low half; else chapter 6's span.
func TestMovLow(t *testing.T) {
	two := tags{x: num(), y: num()}
	mov := narrow(byReg(api.OpMov, 3, 4))
	for _, c := range [][2]int{{0, half}, {0, 0}, {half, half}, {3, 9}} {
		s := of(t, two, ranged(y, c[0], c[1]), cons(con(x, 1, 3)))
		wantIs(t, doing(s, mov), of(t, two, ranged(y, c[0], c[1]), same(x, y)))
		wantSame(t, doing(s, narrow(byReg(api.OpMov, 4, 4))))
	}
	for _, c := range [][2]int{{-1, half}, {0, half + 1}, {half + 1, half + 1}, {-1, -1}, {-5, 5}, {-most, most}} {
		s := of(t, two, ranged(y, c[0], c[1]))
		wantIs(t, doing(s, mov), of(t, two, ranged(y, c[0], c[1]), spanned(x, span.Low(span.Of(c[0], c[1])))))
		wantIs(t, doing(s, narrow(byReg(api.OpMov, 4, 4))), of(t, two, spanned(y, span.Low(span.Of(c[0], c[1])))))
	}
	for _, cs := range [][]api.Con{upTo(y, 4), from(y, 4), nil} {
		wantIs(t, doing(of(t, two, cs), mov), of(t, two, cs, ranged(x, 0, half)))
	}
	for _, k := range kinds() {
		s := of(t, tags{x: k, y: kind(api.KindCtx)})
		wantIs(t, doing(s, narrow(byImm(api.OpMov, 3, 7))), of(t, tags{x: num(), y: kind(api.KindCtx)}, exactly(x, 7)))
		wantIs(t, doing(s, narrow(byImm(api.OpMov, 3, -1))), of(t, tags{x: num(), y: kind(api.KindCtx)}, exactly(x, half)))
		wantIs(t, doing(s, narrow(byImm(api.OpMov, 3, -1<<31))), of(t, tags{x: num(), y: kind(api.KindCtx)}, exactly(x, 1<<31)))
		wantIs(t, doing(of(t, tags{x: k, y: num()}, ranged(y, 1, 2)), mov), of(t, two, ranged(y, 1, 2), same(x, y)))
	}
}

// TestExtendedLow (P10.4): OpMovs is OpMov, where the number is none with a sign.
func TestExtendedLow(t *testing.T) {
	two := tags{x: num(), y: num()}
	for _, size := range []int{8, 16} {
		h := 1 << (size - 1)
		i := narrow(api.Ins{Op: api.OpMovs, Reg: true, Size: size, Dst: 3, Src: 4})
		for _, c := range [][2]int{{0, h - 1}, {0, 0}, {h - 1, h - 1}, {3, 4}} {
			wantIs(t, doing(of(t, two, ranged(y, c[0], c[1])), i), of(t, two, ranged(y, c[0], c[1]), same(x, y)))
		}
		for _, c := range [][2]int{{-1, h - 1}, {0, h}, {h, h}, {-h, -1}, {-h - 1, -1}, {-most, most}} {
			wantIs(t, doing(of(t, two, ranged(y, c[0], c[1])), i), of(t, two, ranged(y, c[0], c[1]), spanned(x, span.Extend(size, true, span.Of(c[0], c[1])))))
		}
		wantIs(t, doing(of(t, two, from(y, 4)), i), of(t, two, from(y, 4), ranged(x, 0, half)))
		i.Src = 3
		wantSame(t, doing(of(t, two, ranged(x, 0, h-1), cons(con(x, y, 1))), i))
	}
}

// movedLow are the instructions that add a number to r3, in 32 bits.
func movedLow(c int) []api.Ins {
	l := moved(c)
	return []api.Ins{narrow(l[0]), narrow(l[1])}
}

// TestNumberMovedLow (P10.4): an Imm, at 0 and 2^32 - 1 and one past them.
func TestNumberMovedLow(t *testing.T) {
	two := tags{x: num(), y: num()}
	for _, c := range []struct{ lo, hi, by int }{{0, 5, 0}, {0, 5, 7}, {7, 9, -7}, {0, half, 0}, {0, half - 9, 9}, {9, half, -9}, {half, half, -1 << 30}, {0, 0, 1<<31 - 1}, {1 << 31, 1 << 31, 1<<31 - 1}} {
		for _, i := range movedLow(c.by) {
			wantIs(t, doing(of(t, two, ranged(x, c.lo, c.hi), cons(con(x, y, 3))), i), of(t, two, ranged(x, c.lo+c.by, c.hi+c.by), cons(con(x, y, 3+c.by))))
		}
	}
	for _, c := range []struct{ lo, hi, by int }{{0, half - 9, 10}, {9, half, -10}, {-1, 5, 1}, {0, half + 1, 0}, {0, half + 1, -1}, {0, 0, -1}, {half, half, 1}, {-5, -3, 9}, {half + 1, half + 9, -10}, {1 << 33, 1 << 33, 5}} {
		for _, i := range movedLow(c.by) {
			want := span.Alu(i.Op, true, span.Of(c.lo, c.hi), span.Of(i.Imm, i.Imm))
			wantIs(t, doing(of(t, two, ranged(x, c.lo, c.hi), cons(con(x, y, 3))), i), of(t, two, from(y, c.lo-3), spanned(x, want)))
		}
	}
	wantIs(t, doing(of(t, two, ranged(x, 1<<31, 1<<31)), narrow(byImm(api.OpSub, 3, -1<<31))), of(t, two, exactly(x, 0)))
	wantIs(t, doing(of(t, two, ranged(x, 0, 1<<31-1)), narrow(byImm(api.OpSub, 3, -1<<31))), of(t, two, ranged(x, 1<<31, half)))
	for _, cs := range [][]api.Con{upTo(x, 4), from(x, 4), nil} {
		wantIs(t, doing(of(t, two, cs), narrow(byImm(api.OpAdd, 3, 0))), of(t, two, ranged(x, 0, half)))
	}
}

// TestJoinedLow (P10.4): sums and differences of registers that are small, renewed where they are too; at 0 and 2^32 - 1 and one past them.
func TestJoinedLow(t *testing.T) {
	two := tags{x: num(), y: num()}
	add, sub := narrow(byReg(api.OpAdd, 3, 4)), narrow(byReg(api.OpSub, 3, 4))
	s, l, left := every(t, num(), num())
	wantIs(t, doing(s, add), of(t, l, left, ranged(x, 1, 6), cons(con(x, y, 4), con(y, x, 0), con(x, 1, -3), con(slot31, x, 6))))
	up := of(t, two, ranged(x, 2, 9), ranged(y, 1, 2), cons(con(x, 1, -5)))
	wantIs(t, doing(up, sub), of(t, two, ranged(x, 0, 8), ranged(y, 1, 2), from(1, 7), cons(con(x, y, 7), con(y, x, 2), con(x, 1, -6))))
	for _, c := range []struct{ a, b [2]int }{{[2]int{0, 9}, [2]int{1, half - 9}}, {[2]int{0, half}, [2]int{0, 0}}, {[2]int{5, 5}, [2]int{0, half - 5}}} {
		s := of(t, two, ranged(x, c.a[0], c.a[1]), ranged(y, c.b[0], c.b[1]))
		wantIs(t, doing(s, add), of(t, two, ranged(x, c.a[0]+c.b[0], c.a[1]+c.b[1]), ranged(y, c.b[0], c.b[1]), cons(con(x, y, c.a[1]), con(y, x, -c.a[0]))))
	}
	for _, c := range []struct{ a, b [2]int }{{[2]int{0, 9}, [2]int{1, half - 8}}, {[2]int{0, half}, [2]int{0, 1}}, {[2]int{-1, 5}, [2]int{1, 2}}, {[2]int{1, 2}, [2]int{-1, 5}}, {[2]int{0, half + 1}, [2]int{0, 0}}, {[2]int{0, 0}, [2]int{0, half + 1}}} {
		wantLow(t, c.a, c.b, add)
	}
	for _, c := range []struct{ a, b [2]int }{{[2]int{4, 9}, [2]int{1, 5}}, {[2]int{0, half}, [2]int{0, 1}}, {[2]int{-1, 5}, [2]int{-9, -2}}, {[2]int{5, half + 1}, [2]int{1, 2}}, {[2]int{3, 9}, [2]int{-1, 2}}, {[2]int{half, half}, [2]int{0, half + 1}}} {
		wantLow(t, c.a, c.b, sub)
	}
	wantIs(t, doing(of(t, two, exactly(x, half), ranged(y, 0, half)), sub), of(t, two, ranged(x, 0, half), ranged(y, 0, half)))
	for _, cs := range [][]api.Con{nil, ranged(x, 1, 3), from(x, -7), exactly(x, most)} {
		wantIs(t, doing(of(t, two, cs, cons(con(y, 0, 9))), narrow(byReg(api.OpSub, 3, 3))), of(t, two, exactly(x, 0), cons(con(y, 0, 9))))
	}
	wantIs(t, doing(of(t, two, ranged(x, 0, 1<<31-1)), narrow(byReg(api.OpAdd, 3, 3))), of(t, two, ranged(x, 0, half-1)))
	wantIs(t, doing(of(t, two, ranged(x, 0, 1<<31)), narrow(byReg(api.OpAdd, 3, 3))), of(t, two, ranged(x, 0, half)))
}

// wantLow: r3, from a[0] to a[1], and r4, from b[0] to b[1], come to nothing but chapter 6's span.
func wantLow(t *testing.T, a, b [2]int, i api.Ins) {
	t.Helper()
	two := tags{x: num(), y: num()}
	want := span.Alu(i.Op, true, span.Of(a[0], a[1]), span.Of(b[0], b[1]))
	wantIs(t, doing(of(t, two, ranged(x, a[0], a[1]), ranged(y, b[0], b[1])), i), of(t, two, ranged(y, b[0], b[1]), spanned(x, want)))
}

// TestReckonedLow (P10.4): all others have chapter 6's span; TrapDiv hangs on the low half of the divisor. OpMod says nothing of it and the divisor.
func TestReckonedLow(t *testing.T) {
	spans := [][2]int{{0, 0}, {1, 9}, {-9, -1}, {-3, 5}, {2, 2}, {0, 1 << 32}, {1<<32 + 1, 1<<32 + 5}, {1 << 32, 1<<32 + 5}, {-most, most}, {1, half}, {0, 31}, {1, half + 1}}
	for _, a := range spans {
		for _, b := range spans {
			s := of(t, tags{x: num(), y: num()}, ranged(x, a[0], a[1]), ranged(y, b[0], b[1]))
			for op := api.OpMul; op <= api.OpNeg; op++ {
				if op == api.OpNeg {
					wantLow(t, a, b, api.Ins{Op: op, Narrow: true, Dst: 3})
					continue
				}
				divides := op >= api.OpDiv && op <= api.OpSmod
				if i := narrow(byReg(op, 3, 4)); divides && !span.NotZero(true, span.Of(b[0], b[1])) {
					wantTraps(t, api.TrapDiv, s, i)
				} else {
					wantLow(t, a, b, i)
				}
				for _, c := range []int{1, 3, 31, -7} {
					if c == -7 && op >= api.OpLsh && op <= api.OpArsh {
						continue
					}
					i := narrow(byImm(op, 3, c))
					want := span.Alu(op, true, span.Of(a[0], a[1]), span.Of(c, c))
					wantFreed(t, s, i, b, want)
				}
			}
		}
	}
	two := tags{x: num(), y: num()}
	for op := api.OpDiv; op <= api.OpSmod; op++ {
		for _, b := range [][2]int{{1, half + 1}, {half + 1, half + 1}, {0, 5}, {-1, 1}, {-most, -1}} {
			wantTraps(t, api.TrapDiv, of(t, two, ranged(y, b[0], b[1])), narrow(byReg(op, 3, 4)), narrow(byReg(op, 4, 4)))
		}
		for _, b := range [][2]int{{1, half}, {half + 2, half + 9}, {-5, -1}, {-half, -1}} {
			wantIs(t, doing(of(t, two, ranged(y, b[0], b[1])), narrow(byReg(op, 3, 4))), of(t, two, ranged(y, b[0], b[1]), spanned(x, span.Alu(op, true, span.Full(), span.Of(b[0], b[1])))))
		}
	}
}
