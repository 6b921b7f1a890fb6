package span_test

import (
	"testing"

	"warrant/api"
)

// try is a call of Alu, and its answer.
type try struct{ a, b, want api.Span }

func wantAll(t *testing.T, op int, narrow bool, tries []try) {
	t.Helper()
	for _, c := range tries {
		wantAlu(t, op, narrow, c.a, c.b, c.want)
	}
}

// The factors of 2^63 + 1 and of 2^63 - 1.
const (
	pastThird  = (1<<63 + 1) / 27
	shortSeven = (1<<63 - 1) / 49
)

// TestMov (P6.5): b, whatever a is.
func TestMov(t *testing.T) {
	wantAll(t, api.OpMov, false, []try{
		{full(), in(3, 9), in(3, 9)},
		{one(7), full(), full()},
		{one(7), to(-3), to(-3)},
		{in(3, 1), from(top), from(top)},
		{in(1, 2), one(-top), one(-top)},
		{full(), one(8), one(8)},
		{in(1, 2), in(-top, top), in(-top, top)},
	})
	wantAll(t, api.OpMov, true, []try{
		{one(7), in(3, 9), in(3, 9)},
		{one(7), in(-9, -3), in(half-8, half-2)},
		{one(7), in(0, half), fullHalf()},
		{one(7), in(1, half+1), fullHalf()},
		{one(7), in(-1, 1), fullHalf()},
		{one(7), in(1<<32+1, 1<<32+2), in(1, 2)},
		{full(), one(-1), one(half)},
		{full(), one(1<<32 + 5), one(5)},
		{full(), full(), fullHalf()},
		{one(7), to(3), fullHalf()},
	})
}

// TestSums (P6.5): OpAdd, OpSub and OpNeg, whose ends just reach 2^63 - 1 and -2^63, and just pass them.
func TestSums(t *testing.T) {
	wantAll(t, api.OpAdd, false, []try{
		{in(-3, 4), in(-10, 20), in(-13, 24)},
		{in(-top, -9), in(0, 9), in(-top, 0)},
		{in(-top, 0), in(-1, 0), to(0)},
		{in(-top, -5), in(-top, -9), to(-14)},
		{in(1-top, 0), in(-1, 0), in(-top, 0)},
		{in(0, top-1), in(0, 1), in(0, top)},
		{in(0, top), in(0, 1), from(0)},
		{in(top-1, top), in(top, top), from(top)},
		{in(-top, -top+1), in(-top, -top), to(-top)},
		{to(5), in(0, 2), to(7)},
		{to(5), in(-1, 2), full()},
		{to(5), in(1, 2), to(7)},
		{to(-5), from(5), full()},
		{from(5), in(-2, 0), from(3)},
		{from(5), in(-2, 1), full()},
		{from(5), in(-2, -1), from(3)},
		{from(5), from(5), full()},
		{to(5), to(5), full()},
		{full(), one(0), full()},
		{in(-1, 2), to(5), full()},
		{in(-2, 1), from(5), full()},
		{in(0, 2), to(-5), to(-3)},
		{one(top), one(top), from(top)},
		{one(-top), one(-top), to(-top)},
		{one(-top), one(-1), to(-top)},
		{one(top), one(-top), one(0)},
	})
	wantAll(t, api.OpSub, false, []try{
		{in(-3, 4), in(-10, 20), in(-23, 14)},
		{to(5), in(-2, 0), to(7)},
		{to(5), in(-2, 1), full()},
		{from(5), in(0, 2), from(3)},
		{from(5), in(-1, 2), full()},
		{in(-1, 5), from(2), to(3)},
		{in(-2, 5), from(2), full()},
		{in(0, 5), from(2), to(3)},
		{in(-9, -1), to(2), from(-11)},
		{in(-9, 0), to(2), full()},
		{in(-9, -2), to(2), from(-11)},
		{full(), one(0), full()},
		{full(), full(), full()},
		{in(0, top), in(-1, 0), from(0)},
		{in(-top, 0), in(0, 1), to(0)},
		{in(1, 5), in(1, 5), in(-4, 4)},
		{one(-top), one(1), to(-top)},
	})
	wantAll(t, api.OpNeg, false, []try{
		{in(-3, 9), full(), in(-9, 3)},
		{in(-3, 9), one(5), in(-9, 3)},
		{in(-top, top), in(3, 1), in(-top, top)},
		{one(5), full(), one(-5)},
		{one(-top), in(0, 7), one(top)},
		{from(3), one(1), to(-3)},
		{from(-top), one(1), to(top)},
		{to(3), one(1), full()},
		{to(-top), full(), full()},
		{full(), one(1), full()},
	})
}

// TestProducts (P6.5): OpMul, in all quarters, and with an end at 2^63 - 1, -2^63, one above and one below.
func TestProducts(t *testing.T) {
	wantAll(t, api.OpMul, false, []try{
		{in(2, 3), in(4, 5), in(8, 15)},
		{in(-3, -2), in(4, 5), in(-15, -8)},
		{in(-3, -2), in(-5, -4), in(8, 15)},
		{in(-3, 2), in(-5, 4), in(-12, 15)},
		{in(-3, 2), in(-4, 5), in(-15, 12)},
		{in(-2, 3), in(-5, 4), in(-15, 12)},
		{in(-2, 3), one(0), in(0, 0)},
		{full(), one(0), one(0)},
		{full(), one(1), full()},
		{full(), in(0, 1), full()},
		{from(3), one(1), from(3)},
		{from(-3), one(2), full()},
		{to(3), one(1), to(3)},
		{to(3), one(-1), full()},
		{from(3), one(-1), to(-3)},
		{in(1, 7), in(1<<57, 1<<57), in(1<<57, 7<<57)},
		{in(1, 8), in(1<<57, 1<<57), in(1<<57, top)},
		{in(1, 9), in(1<<57, 1<<57), from(1 << 57)},
		{in(1, top), one(8), full()},
		{in(1, top-1), one(8), from(8)},
		{in(1, top), one(7), from(7)},
		{in(1, top), one(-8), to(-8)},
		{in(1, top), one(-9), full()},
		{in(-top, -1), one(8), to(-8)},
		{in(-top, -1), one(-8), full()},
		{in(1, shortSeven), one(49), from(49)},
		{in(-shortSeven, -1), one(-49), from(49)},
		{in(1, pastThird), one(-27), full()},
		{in(-pastThird, 1), one(27), full()},
		{in(1, pastThird-1), one(-27), to(-27)},
		{in(1, top), in(1, top), full()},
		{in(1, 1<<32), in(1, 1<<32), full()},
		{in(1, 1<<32), in(-1<<32, 1), full()},
		{in(1, 1<<32), in(1, 1<<31-1), from(1)},
		{in(1, 1<<32), in(1, 1<<31), full()},
		{in(1, 1<<32), in(-1<<31, 1), to(1 << 32)},
		{one(top), one(16), one(0)},
		{one(top), one(17), one(top)},
		{one(top), one(9), to(-top)},
		{one(top), one(7), from(top)},
		{one(top), one(8), to(-top)},
	})
}

// TestDiv (P6.5): the quotient without sign, each row and what just does not keep it.
func TestDiv(t *testing.T) {
	wantAll(t, api.OpDiv, false, []try{
		{in(0, 20), in(1, 5), in(0, 20)},
		{in(11, 20), in(3, 4), in(2, 6)},
		{in(0, 9), in(0, 9), full()},
		{in(0, 9), in(-1, 9), full()},
		{in(0, 9), one(0), full()},
		{one(5), one(0), full()},
		{one(5), one(-1), one(0)},
		{one(-1), one(-1), one(1)},
		{one(-1), one(2), from(top)},
		{from(9), in(2, 3), from(3)},
		{from(7), from(7), from(0)},
		{from(7), from(9), in(0, greatest/9)},
		{from(0), in(8, 9), in(0, top-1)},
		{in(-1, 9), in(1, 5), full()},
		{in(-1, 9), in(2, 5), from(0)},
		{full(), in(15, 20), from(0)},
		{full(), in(16, 20), in(0, top-1)},
		{full(), in(17, 20), in(0, (1<<64-1)/17)},
		{full(), one(3), from(0)},
		{to(-1), from(1 << 32), in(0, half)},
		{full(), in(-9, -1), in(0, 1)},
		{full(), to(-1), in(0, 1)},
		{full(), in(-9, 0), full()},
		{in(3, 9), in(-9, -1), in(0, 1)},
		{in(3, 9), in(-9, 0), full()},
		{in(3, 9), full(), full()},
		{full(), from(1), full()},
		{full(), from(2), from(0)},
	})
}

// TestMod (P6.5): the rest without sign.
func TestMod(t *testing.T) {
	wantAll(t, api.OpMod, false, []try{
		{in(3, 7), in(8, 20), in(3, 7)},
		{in(3, 8), in(8, 20), in(0, 8)},
		{in(3, 30), in(8, 20), in(0, 19)},
		{in(3, 19), in(8, 20), in(0, 19)},
		{in(3, 18), in(8, 20), in(0, 18)},
		{in(0, 7), from(8), in(0, 7)},
		{in(3, 7), in(-9, -1), in(3, 7)},
		{from(3), in(-9, -1), from(3)},
		{in(3, 7), in(-9, 0), full()},
		{in(3, 7), in(0, 20), full()},
		{in(0, 0), in(0, 20), full()},
		{in(-1, 7), in(8, 20), in(0, 19)},
		{in(-1, 7), one(1), in(0, 0)},
		{in(-1, 7), in(0, 20), full()},
		{in(-1, 7), in(-9, -1), full()},
		{full(), from(1), from(0)},
		{full(), in(1, top), in(0, top-1)},
		{from(4), from(5), from(0)},
		{from(4), in(1, 5), in(0, 4)},
		{one(5), one(0), full()},
		{one(-1), one(10), one(5)},
	})
}

// TestSdiv (P6.5): the quotient with signs.
func TestSdiv(t *testing.T) {
	wantAll(t, api.OpSdiv, false, []try{
		{in(-7, 20), in(1, 5), in(-7, 20)},
		{in(-7, 20), in(2, 5), in(-3, 10)},
		{in(-20, -7), in(2, 5), in(-10, -1)},
		{in(7, 20), in(-5, -2), in(-10, -1)},
		{in(-20, -7), in(-5, -2), in(1, 10)},
		{in(-20, 9), in(-5, -2), in(-4, 10)},
		{in(-20, 9), in(-5, -1), in(-9, 20)},
		{in(-20, 9), in(0, 5), full()},
		{in(-20, 9), in(-5, 0), full()},
		{in(-20, 9), in(-1, 1), full()},
		{in(-20, 9), one(0), full()},
		{one(-20), one(0), full()},
		{to(9), in(-5, -1), full()},
		{to(9), one(-1), full()},
		{to(9), to(-1), full()},
		{to(9), in(-5, -2), from(-4)},
		{to(9), in(-9, -8), in(-1, top)},
		{to(9), in(-9, -9), in(-1, -(least / 9))},
		{to(9), one(1), to(9)},
		{to(9), one(8), in(-top, 1)},
		{to(9), in(9, 11), in(least/9, 1)},
		{in(-top, 9), in(-5, -1), in(-9, top)},
		{from(9), one(-1), to(-9)},
		{from(-9), from(1), from(-9)},
		{from(-9), to(-1), to(9)},
		{full(), from(1), full()},
		{full(), to(-2), full()},
		{full(), to(-1), full()},
		{one(-7), one(2), one(-3)},
	})
}

// TestSmod (P6.5): the rest with signs; a divisor may reach down to -2^63.
func TestSmod(t *testing.T) {
	wantAll(t, api.OpSmod, false, []try{
		{in(-20, 30), in(1, 5), in(-4, 4)},
		{in(-3, 30), in(1, 5), in(-3, 4)},
		{in(-20, 3), in(1, 5), in(-4, 3)},
		{in(0, 30), in(1, 5), in(0, 4)},
		{in(7, 30), in(1, 5), in(0, 4)},
		{in(-30, 0), in(1, 5), in(-4, 0)},
		{in(-30, -7), in(1, 5), in(-4, 0)},
		{in(2, 3), in(8, 9), in(0, 3)},
		{in(-20, 30), in(-5, -1), in(-4, 4)},
		{in(-20, 30), in(-1, -1), in(0, 0)},
		{in(-20, 30), one(1), in(0, 0)},
		{in(-20, 30), in(0, 5), full()},
		{in(-20, 30), in(-5, 0), full()},
		{in(-20, 30), in(-1, 1), full()},
		{in(-20, 30), to(-1), in(-20, 30)},
		{in(-20, 30), from(1), in(-20, 30)},
		{full(), to(-1), full()},
		{full(), from(1), full()},
		{full(), in(1, top), in(1-top, top-1)},
		{full(), in(-top, -1), in(1-top, top-1)},
		{to(-3), to(-7), to(0)},
		{from(3), to(-7), from(0)},
		{to(4), in(-9, -2), in(-8, 4)},
		{from(-4), in(2, 9), in(-4, 8)},
		{one(5), one(0), full()},
		{one(-7), one(2), one(-1)},
	})
}

// TestBits (P6.5): OpAnd, OpOr and OpXor, row by row; at powers of 2 and one below them.
func TestBits(t *testing.T) {
	wantAll(t, api.OpAnd, false, []try{
		{in(3, 9), in(5, 7), in(0, 7)},
		{in(3, 6), in(5, 7), in(0, 6)},
		{in(0, 9), in(-1, 5), in(0, 9)},
		{in(3, 9), full(), in(0, 9)},
		{from(3), full(), from(0)},
		{from(3), from(4), from(0)},
		{in(-1, 9), in(0, 5), in(0, 5)},
		{in(-9, -3), in(0, 5), in(0, 5)},
		{in(-9, -3), in(-8, -1), to(-3)},
		{in(-9, -1), in(-8, -4), to(-4)},
		{to(-top), in(-8, -4), to(-top)},
		{in(-9, 0), in(-8, -4), full()},
		{in(-9, -1), in(-8, 0), full()},
		{in(-1, 9), in(-1, 9), full()},
		{full(), full(), full()},
		{one(12), one(10), one(8)},
	})
	wantAll(t, api.OpOr, false, []try{
		{in(5, 6), in(0, 1), in(5, 7)},
		{in(0, 1), in(5, 6), in(5, 7)},
		{in(0, 7), in(0, 7), in(0, 7)},
		{in(0, 8), in(0, 7), in(0, 15)},
		{in(0, 1), in(0, 16), in(0, 31)},
		{in(0, 0), in(0, 1), in(0, 1)},
		{in(0, 1<<59-1), in(0, 3), in(0, 1<<59-1)},
		{in(0, top-1), in(0, 3), in(0, top-1)},
		{in(0, top), in(0, 3), from(0)},
		{from(9), in(0, 3), from(9)},
		{in(-1, 8), in(0, 7), full()},
		{in(0, 8), in(-1, 7), full()},
		{in(-9, -3), in(-8, -4), in(-8, -1)},
		{in(-8, -3), in(-9, -4), in(-8, -1)},
		{in(-9, -1), in(-8, 0), in(-9, -1)},
		{in(-9, -3), full(), in(-9, -1)},
		{to(-3), in(3, 4), to(-1)},
		{in(-9, 0), in(-8, -1), in(-8, -1)},
		{from(3), in(-8, -1), in(-8, -1)},
		{in(3, 4), to(-1), to(-1)},
		{in(-9, 0), in(-8, 0), full()},
		{full(), full(), full()},
		{one(12), one(10), one(14)},
	})
	wantAll(t, api.OpXor, false, []try{
		{in(4, 7), in(4, 7), in(0, 7)},
		{in(4, 8), in(4, 7), in(0, 15)},
		{in(4, 7), in(4, 8), in(0, 15)},
		{in(0, 0), in(0, 1), in(0, 1)},
		{in(0, top-1), in(1, 2), in(0, top-1)},
		{in(0, top), in(1, 2), from(0)},
		{from(4), in(1, 2), from(0)},
		{in(-1, 7), in(4, 7), full()},
		{in(4, 7), in(-1, 7), full()},
		{in(-7, -4), in(-7, -4), full()},
		{one(12), one(10), one(6)},
		{one(-1), one(-1), one(0)},
	})
}

// TestShifts (P6.5): counts that are single, in their range and past it; ends that just fit.
func TestShifts(t *testing.T) {
	wantAll(t, api.OpLsh, false, []try{
		{in(-3, 5), one(2), in(-12, 20)},
		{in(-3, 5), one(66), in(-12, 20)},
		{in(-3, 5), one(-62), in(-12, 20)},
		{in(-3, 5), one(64), in(-3, 5)},
		{in(-3, 5), in(1, 2), full()},
		{in(3, 5), in(1, 2), in(6, 20)},
		{in(0, 5), in(0, 57), in(0, 5<<57)},
		{in(0, 5), in(0, 58), from(0)},
		{in(0, 5), in(0, 60), from(0)},
		{in(0, 5), in(0, 61), full()},
		{in(0, 1), in(3, 62), from(0)},
		{in(0, 1), in(3, 63), full()},
		{in(0, 1), in(3, 64), full()},
		{in(0, 1), in(-1, 3), full()},
		{in(0, 1), full(), full()},
		{in(0, top-1), one(3), from(0)},
		{in(0, top), one(2), from(0)},
		{in(0, top), one(3), full()},
		{in(-top, 0), one(3), to(0)},
		{in(-top, 0), one(4), full()},
		{in(-top, 0), one(63), full()},
		{in(-1, 0), one(63), to(0)},
		{in(-1, 0), one(60), in(-top, 0)},
		{in(-1, 0), one(61), to(0)},
		{in(-2, 0), one(63), full()},
		{in(0, 1), one(60), in(0, top)},
		{full(), one(64), full()},
		{to(3), one(0), to(3)},
		{to(3), one(1), full()},
		{from(3), one(128), from(3)},
		{one(3), one(65), one(6)},
		{one(1), one(63), to(-top)},
	})
	wantAll(t, api.OpRsh, false, []try{
		{in(9, 100), one(2), in(2, 25)},
		{in(9, 100), in(1, 3), in(1, 50)},
		{in(9, 100), in(0, 63), in(0, 100)},
		{in(9, 100), in(0, 64), in(0, 100)},
		{in(9, 100), in(-1, 3), in(0, 100)},
		{in(9, 100), one(67), in(1, 12)},
		{from(8), in(1, 2), from(2)},
		{from(8), in(3, 4), in(0, top-1)},
		{in(-1, 100), in(1, 3), from(0)},
		{in(-1, 100), in(3, 63), from(0)},
		{in(-1, 100), in(4, 63), in(0, top-1)},
		{in(-1, 100), in(4, 64), full()},
		{in(-1, 100), in(0, 3), full()},
		{in(-1, 100), one(64), full()},
		{in(-1, 100), one(127), in(0, 1)},
		{in(-1, 100), one(-1), in(0, 1)},
		{full(), one(1), from(0)},
		{full(), one(63), in(0, 1)},
		{full(), full(), full()},
		{one(-1), one(60), one(15)},
	})
	wantAll(t, api.OpArsh, false, []try{
		{in(-9, 9), one(1), in(-5, 4)},
		{in(-9, 9), in(1, 2), in(-5, 4)},
		{in(9, 30), in(1, 2), in(2, 15)},
		{in(-30, -9), in(1, 2), in(-15, -3)},
		{in(-30, 0), in(1, 2), in(-15, 0)},
		{in(-30, -1), in(0, 63), in(-30, -1)},
		{in(0, 30), in(1, 2), in(0, 15)},
		{in(-30, 30), in(1, 63), in(-15, 15)},
		{in(-30, 30), in(1, 64), in(-30, 30)},
		{in(-30, 30), in(-1, 5), in(-30, 30)},
		{in(-30, 30), one(65), in(-15, 15)},
		{in(-30, 30), one(-63), in(-15, 15)},
		{full(), one(2), full()},
		{full(), one(3), in(-top, top-1)},
		{full(), one(4), in(-top/2, top/2-1)},
		{full(), one(63), in(-1, 0)},
		{to(-8), in(3, 4), in(-top, -1)},
		{from(8), in(3, 4), in(0, top-1)},
		{one(-9), one(1), one(-5)},
	})
}

// TestNone (P6.5, P6.6): an operation that is none says nothing, single operands or not.
func TestNone(t *testing.T) {
	for _, op := range strange(operations...) {
		for _, l := range [][]api.Span{{one(1), one(2)}, {one(0), one(0)}, {in(1, 5), in(2, 3)}, {one(3), full()}, {to(7), one(3)}} {
			wantAlu(t, op, false, l[0], l[1], full())
			wantAlu(t, op, true, l[0], l[1], fullHalf())
		}
	}
}

// TestSingles (P6.5, P6.6): of single operands the number itself, unless it is an error; OpNeg and OpMov want one of them alone.
func TestSingles(t *testing.T) {
	l := edges()
	for _, op := range operations {
		for _, narrow := range both {
			for n, v := range l {
				w := l[(7*n+3*op)%len(l)]
				wantAlu(t, op, narrow, one(v), one(w), alu(op, narrow, one(v), one(w)))
				wantAlu(t, op, narrow, one(v), one(0), alu(op, narrow, one(v), one(0)))
				wantAlu(t, op, narrow, one(v), one(1<<32), alu(op, narrow, one(v), one(1<<32)))
			}
		}
	}
	for _, op := range []int{api.OpDiv, api.OpMod, api.OpSdiv, api.OpSmod} {
		wantAlu(t, op, false, one(9), one(0), full())
		wantAlu(t, op, true, one(9), one(0), fullHalf())
		wantAlu(t, op, true, one(9), one(1<<32), fullHalf())
		wantAlu(t, op, true, one(9), one(-1<<32), fullHalf())
	}
	wantAlu(t, api.OpDiv, false, one(9), one(1<<32), one(0))
	wantAlu(t, api.OpMod, false, one(9), one(1<<32), one(9))
	for _, b := range append(unsound(), full(), in(1, 5), one(3)) {
		wantAlu(t, api.OpNeg, false, one(5), b, one(-5))
		wantAlu(t, api.OpNeg, true, one(5), b, one(1<<32-5))
		wantAlu(t, api.OpNeg, true, one(0), b, one(0))
		wantAlu(t, api.OpNeg, true, one(1<<32), b, one(0))
		wantAlu(t, api.OpNeg, true, one(-1), b, one(1))
		wantAlu(t, api.OpMov, false, b, one(-5), one(-5))
		wantAlu(t, api.OpMov, true, b, one(-5), one(1<<32-5))
		wantAlu(t, api.OpMov, true, b, one(1<<32), one(0))
	}
	wantAlu(t, api.OpNeg, false, in(1, 5), one(3), in(-5, -1))
	wantAlu(t, api.OpMov, false, one(3), in(1, 5), in(1, 5))
	wantAlu(t, api.OpAdd, false, one(3), in(1, 5), in(4, 8))
	wantAlu(t, api.OpAdd, false, in(1, 5), one(3), in(4, 8))
	wantAlu(t, api.OpXor, false, one(-1), in(1, 5), full())
	wantAlu(t, api.OpXor, false, in(1, 5), one(-1), full())
}
