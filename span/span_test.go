package span_test

import (
	"testing"

	"warrant/api"
	"warrant/span"
)

// in has both ends; from and to have one.
func in(lo, hi int) api.Span { return api.Span{Lo: lo, Hi: hi} }

func from(lo int) api.Span { return api.Span{Lo: lo, NoHi: true} }

func to(hi int) api.Span { return api.Span{NoLo: true, Hi: hi} }

func one(v int) api.Span { return in(v, v) }

// fullHalf is the span of all low halves.
func fullHalf() api.Span { return in(0, half) }

func wantSpan(t *testing.T, what string, got, want api.Span) {
	t.Helper()
	if got != want {
		t.Errorf("%s: %s; want %s", what, told(got), told(want))
	}
}

func wantOf(t *testing.T, lo, hi int, want api.Span) {
	t.Helper()
	if got := span.Of(lo, hi); got != want {
		t.Errorf("Of(%d, %d): %s; want %s", lo, hi, told(got), told(want))
	}
}

func wantHas(t *testing.T, s api.Span, v int, want bool) {
	t.Helper()
	if got := span.Has(s, v); got != want {
		t.Errorf("Has(%s, %d): %v", told(s), v, got)
	}
}

func wantLow(t *testing.T, a, want api.Span) {
	t.Helper()
	if got := span.Low(a); got != want {
		t.Errorf("Low(%s): %s; want %s", told(a), told(got), told(want))
	}
}

func wantNotZero(t *testing.T, narrow bool, a api.Span, want bool) {
	t.Helper()
	if got := span.NotZero(narrow, a); got != want {
		t.Errorf("NotZero(%v, %s): %v", narrow, told(a), got)
	}
}

func wantBytes(t *testing.T, size int, signed bool, want api.Span) {
	t.Helper()
	if got := span.Bytes(size, signed); got != want {
		t.Errorf("Bytes(%d, %v): %s; want %s", size, signed, told(got), told(want))
	}
}

func wantAlu(t *testing.T, op int, narrow bool, a, b, want api.Span) {
	t.Helper()
	if got := span.Alu(op, narrow, a, b); got != want {
		t.Errorf("%s: %s; want %s", called(op, narrow, a, b), told(got), told(want))
	}
}

func wantSwap(t *testing.T, size int, turned bool, a, want api.Span) {
	t.Helper()
	if got := span.Swap(size, turned, a); got != want {
		t.Errorf("Swap(%d, %v, %s): %s; want %s", size, turned, told(a), told(got), told(want))
	}
}

func wantExtend(t *testing.T, size int, narrow bool, a, want api.Span) {
	t.Helper()
	if got := span.Extend(size, narrow, a); got != want {
		t.Errorf("Extend(%d, %v, %s): %s; want %s", size, narrow, told(a), told(got), told(want))
	}
}

// TestExamples: every row of the chapter's section Examples.
func TestExamples(t *testing.T) {
	wantOf(t, 1, 5, in(1, 5))
	wantOf(t, 5, 1, full())
	wantOf(t, -1<<62, 3, to(3))
	wantOf(t, 1<<62, 1<<62, from(1<<60))

	wantHas(t, in(3, 1), 9, true)
	wantHas(t, to(3), -1<<63, true)

	wantLow(t, in(5, 9), in(5, 9))
	wantLow(t, in(-3, -1), in(1<<32-3, 1<<32-1))
	wantLow(t, in(-1, 1), fullHalf())
	wantLow(t, in(1<<32+1, 1<<32+7), in(1, 7))

	wantNotZero(t, false, in(1, 9), true)
	wantNotZero(t, true, in(1<<32, 1<<32+1), false)
	wantNotZero(t, true, in(-9, -1), true)

	wantAlu(t, api.OpAdd, false, in(1, 5), in(10, 20), in(11, 25))
	wantAlu(t, api.OpAdd, false, from(0), one(1), full())
	wantAlu(t, api.OpAdd, false, to(5), one(3), to(8))

	wantAlu(t, api.OpSub, false, in(1, 5), in(2, 3), in(-2, 3))
	wantAlu(t, api.OpMul, false, in(-2, 3), in(4, 5), in(-10, 15))
	wantAlu(t, api.OpNeg, false, in(2, 3), full(), in(-3, -2))

	wantAlu(t, api.OpDiv, false, in(10, 20), in(2, 5), in(2, 10))
	wantAlu(t, api.OpMod, false, in(0, 99), in(1, 8), in(0, 7))
	wantAlu(t, api.OpMod, false, in(3, 4), in(8, 9), in(3, 4))
	wantAlu(t, api.OpMod, false, full(), in(1, 8), in(0, 7))

	wantAlu(t, api.OpAnd, false, full(), one(7), in(0, 7))
	wantAlu(t, api.OpOr, false, in(1, 4), in(2, 3), in(2, 7))
	wantAlu(t, api.OpXor, false, in(5, 6), in(1, 2), in(0, 7))

	wantAlu(t, api.OpLsh, false, in(1, 3), one(4), in(16, 48))
	wantAlu(t, api.OpRsh, false, full(), one(60), in(0, 15))
	wantAlu(t, api.OpArsh, false, in(-8, 8), in(1, 2), in(-4, 4))

	wantAlu(t, api.OpAdd, true, one(1<<32-1), one(1), one(0))
	wantAlu(t, api.OpAdd, true, in(1, 2), in(3, 4), in(4, 6))
	wantAlu(t, api.OpSub, true, in(0, 2), one(1), fullHalf())

	wantBytes(t, 2, false, in(0, 65535))
	wantBytes(t, 1, true, in(-128, 127))
	wantBytes(t, 8, false, full())
	wantBytes(t, 3, false, full())

	wantSwap(t, 16, true, one(1), one(256))
	wantSwap(t, 16, false, in(0, 70000), in(0, 65535))
	wantExtend(t, 8, false, in(0, 200), in(-128, 127))
	wantExtend(t, 8, true, in(-2, -1), in(1<<32-2, 1<<32-1))
}

// TestFull (P6.1).
func TestFull(t *testing.T) {
	wantSpan(t, "Full()", span.Full(), api.Span{NoLo: true, NoHi: true})
}

// TestOf (P6.1): the span from lo to hi, at Most and one past it on either side; Full of what is the wrong way round.
func TestOf(t *testing.T) {
	for _, c := range []struct {
		lo, hi int
		want   api.Span
	}{
		{0, 0, one(0)},
		{-7, -7, one(-7)},
		{-7, 9, in(-7, 9)},
		{-top, top, in(-top, top)},
		{1 - top, top - 1, in(1-top, top-1)},
		{-top - 1, top, to(top)},
		{-top, top + 1, from(-top)},
		{-top - 1, top + 1, full()},
		{least, greatest, full()},
		{least, 0, to(0)},
		{0, greatest, from(0)},
		{top, top, one(top)},
		{top, top + 1, from(top)},
		{top - 1, top + 1, from(top - 1)},
		{top + 1, top + 1, from(top)},
		{top + 1, greatest, from(top)},
		{greatest, greatest, from(top)},
		{-top, -top, one(-top)},
		{-top - 1, -top, to(-top)},
		{-top - 1, 1 - top, to(1 - top)},
		{-top - 1, -top - 1, to(-top)},
		{least, -top - 1, to(-top)},
		{least, least, to(-top)},
		{1, 0, full()},
		{0, -1, full()},
		{top, -top, full()},
		{top + 1, top, full()},
		{-top, -top - 1, full()},
		{greatest, least, full()},
		{least + 1, least, full()},
	} {
		wantOf(t, c.lo, c.hi, c.want)
	}
}

// TestHas (P6.1): the numbers from end to end; of a span without an end all that lie on that side.
func TestHas(t *testing.T) {
	for _, c := range []struct {
		s      api.Span
		v      int
		is, up bool // v, and v + 1
	}{
		{in(3, 5), 2, false, true},
		{in(3, 5), 5, true, false},
		{in(-5, -3), -6, false, true},
		{in(-5, -3), -3, true, false},
		{one(0), -1, false, true},
		{one(0), 0, true, false},
		{in(-top, top), -top - 1, false, true},
		{in(-top, top), top, true, false},
		{from(3), 2, false, true},
		{from(-top), -top - 1, false, true},
		{from(top), greatest - 1, true, true},
		{to(3), 3, true, false},
		{to(3), least, true, true},
		{to(-top), -top, true, false},
		{full(), least, true, true},
		{full(), greatest - 1, true, true},
		{from(3), least, false, false},
		{to(3), greatest - 1, false, false},
	} {
		wantHas(t, c.s, c.v, c.is)
		wantHas(t, c.s, c.v+1, c.up)
	}
	for _, s := range unsound() {
		for _, v := range []int{least, -top, -1, 0, 1, 9, top, greatest} {
			wantHas(t, s, v, true)
		}
	}
}

// TestUnsound (section Words): every call reads a span that is not sound as Full.
func TestUnsound(t *testing.T) {
	others := append(few(), full(), one(0), one(1), one(-1), one(3), in(1, 5))
	for _, s := range unsound() {
		wantLow(t, s, fullHalf())
		for _, narrow := range both {
			wantNotZero(t, narrow, s, false)
			for _, size := range []int{8, 16, 32, 64} {
				wantSwap(t, size, narrow, s, span.Swap(size, narrow, full()))
				wantExtend(t, size, narrow, s, span.Extend(size, narrow, full()))
			}
			for _, op := range operations {
				for _, b := range others {
					wantAlu(t, op, narrow, s, b, alu(op, narrow, full(), b))
					wantAlu(t, op, narrow, b, s, alu(op, narrow, b, full()))
				}
				wantAlu(t, op, narrow, s, s, alu(op, narrow, full(), full()))
			}
		}
	}
}

// TestLow (P6.2).
func TestLow(t *testing.T) {
	for _, c := range []struct{ a, want api.Span }{
		{in(0, half), fullHalf()},
		{in(0, half-1), in(0, half-1)},
		{in(1, half), in(1, half)},
		{one(half), one(half)},
		{in(0, half+1), fullHalf()},
		{in(half, half+1), fullHalf()},
		{in(half+1, half+1), one(0)},
		{in(1<<32, 1<<33-1), fullHalf()},
		{in(1<<32+5, 1<<33-1), in(5, half)},
		{in(1<<32+5, 1<<33), fullHalf()},
		{in(-1, 0), fullHalf()},
		{in(-1, 7), fullHalf()},
		{one(-1), one(half)},
		{in(-1<<32, -1), fullHalf()},
		{in(-1<<32, -7), in(0, 1<<32-7)},
		{in(-1<<32-1, -7), fullHalf()},
		{in(-1<<33, -1<<32-1), fullHalf()},
		{in(-1<<33+2, -1<<32-3), in(2, half-2)},
		{one(top), one(0)},
		{in(top-2, top-1), in(half-1, half)},
		{in(top-2, top), fullHalf()},
		{in(-top, -top+9), in(0, 9)},
		{one(1<<40 + 1<<32 + 77), one(77)},
		{in(1, 1<<32+1), fullHalf()},
		{in(5, 1<<33+9), fullHalf()},
		{from(0), fullHalf()},
		{from(top), fullHalf()},
		{to(-1), fullHalf()},
		{to(-top), fullHalf()},
		{to(half), fullHalf()},
		{full(), fullHalf()},
	} {
		wantLow(t, c.a, c.want)
	}
}

// TestNotZero (P6.3).
func TestNotZero(t *testing.T) {
	for _, c := range []struct {
		a            api.Span
		wide, narrow bool
	}{
		{in(1, 9), true, true},
		{in(0, 9), false, false},
		{one(0), false, false},
		{one(1), true, true},
		{one(-1), true, true},
		{in(-9, -1), true, true},
		{in(-9, 0), false, false},
		{in(-9, 9), false, false},
		{from(1), true, false},
		{from(0), false, false},
		{from(-1), false, false},
		{from(top), true, false},
		{to(-1), true, false},
		{to(0), false, false},
		{to(1), false, false},
		{to(-top), true, false},
		{full(), false, false},
		{in(1, half), true, true},
		{in(1, half+1), true, false},
		{one(1 << 32), true, false},
		{in(1<<32, 1<<32+1), true, false},
		{in(1<<32+1, 1<<33-1), true, true},
		{in(1<<32+1, 1<<33), true, false},
		{in(1-1<<32, -1), true, true},
		{in(-1<<32, -1), true, false},
		{in(-1<<32-1, -1), true, false},
		{one(-1 << 32), true, false},
		{one(top), true, false},
	} {
		wantNotZero(t, false, c.a, c.wide)
		wantNotZero(t, true, c.a, c.narrow)
	}
}

// TestBytes (P6.4): each size that has a span of its own, and sizes that have none.
func TestBytes(t *testing.T) {
	wantBytes(t, 1, false, in(0, 255))
	wantBytes(t, 2, false, in(0, 65535))
	wantBytes(t, 4, false, in(0, 1<<32-1))
	wantBytes(t, 1, true, in(-128, 127))
	wantBytes(t, 2, true, in(-32768, 32767))
	wantBytes(t, 4, true, in(-1<<31, 1<<31-1))
	for _, signed := range both {
		for size := -70; size <= 300; size++ {
			wantBytes(t, size, signed, bytesOf(size, signed))
		}
		for _, size := range []int{least, least + 1, -1<<32 + 1, 1<<32 + 1, 1<<32 + 2, 1<<32 + 4, greatest} {
			wantBytes(t, size, signed, full())
		}
	}
}

// TestSwap (P6.7): each size, turned and not, and sizes that are none.
func TestSwap(t *testing.T) {
	for _, c := range []struct {
		size   int
		turned bool
		a      api.Span
		want   api.Span
	}{
		{16, false, in(0, 65535), in(0, 65535)},
		{16, false, in(7, 65535), in(7, 65535)},
		{16, false, in(7, 65536), in(0, 65535)},
		{16, false, in(-1, 7), in(0, 65535)},
		{16, false, in(65537, 65539), in(0, 65535)},
		{16, false, in(-9, -8), in(0, 65535)},
		{16, false, from(7), in(0, 65535)},
		{16, false, to(7), in(0, 65535)},
		{16, false, full(), in(0, 65535)},
		{16, false, one(65537), one(1)},
		{16, false, one(-2), one(65534)},
		{16, true, one(-2), one(0xfeff)},
		{16, true, in(1, 2), in(0, 65535)},
		{16, true, full(), in(0, 65535)},
		{32, false, in(3, half), in(3, half)},
		{32, false, in(3, half+1), fullHalf()},
		{32, false, in(1<<32+3, 1<<32+4), in(3, 4)},
		{32, false, in(-4, -3), in(half-3, half-2)},
		{32, false, from(0), fullHalf()},
		{32, false, full(), fullHalf()},
		{32, false, one(-1), one(half)},
		{32, true, one(1), one(1 << 24)},
		{32, true, one(0x12345678), one(0x78563412)},
		{32, true, in(1, 2), fullHalf()},
		{32, true, full(), fullHalf()},
		{64, false, in(-3, 9), in(-3, 9)},
		{64, false, one(top), one(top)},
		{64, false, to(4), to(4)},
		{64, false, from(4), from(4)},
		{64, false, full(), full()},
		{64, true, one(1), one(1 << 56)},
		{64, true, one(0x10), one(top)},
		{64, true, one(0x11), from(top)},
		{64, true, one(0x7f), from(top)},
		{64, true, one(0x80), to(-top)},
		{64, true, one(0xf0), one(-top)},
		{64, true, one(0xef), to(-top)},
		{64, true, one(-1), one(-1)},
		{64, true, in(1, 2), full()},
		{64, true, from(top), full()},
	} {
		wantSwap(t, c.size, c.turned, c.a, c.want)
	}
	for _, size := range strange(16, 32, 64) {
		for _, turned := range both {
			for _, a := range []api.Span{one(0), one(5), in(1, 9), to(3), full()} {
				wantSwap(t, size, turned, a, full())
			}
		}
	}
}

// TestExtend (P6.8): each size, narrow and not, and sizes that are none.
func TestExtend(t *testing.T) {
	for _, size := range []int{8, 16, 32} {
		h := 1 << (size - 1)
		for _, c := range []struct{ a, wide, narrow api.Span }{
			{in(-h, h-1), in(-h, h-1), fullHalf()},
			{in(-h, -1), in(-h, -1), in(1<<32-h, half)},
			{in(-h, 0), in(-h, 0), fullHalf()},
			{in(-1, 0), in(-1, 0), fullHalf()},
			{in(0, h-1), in(0, h-1), in(0, h-1)},
			{in(3, 4), in(3, 4), in(3, 4)},
			{in(-4, -3), in(-4, -3), in(1<<32-4, 1<<32-3)},
			{in(0, h), in(-h, h-1), fullHalf()},
			{in(h-2, h-1), in(h-2, h-1), in(h-2, h-1)},
			{in(h-1, h), in(-h, h-1), fullHalf()},
			{in(-h-1, -1), in(-h, h-1), fullHalf()},
			{in(-h-1, h-1), in(-h, h-1), fullHalf()},
			{in(2*h, 2*h+1), in(-h, h-1), fullHalf()},
			{from(0), in(-h, h-1), fullHalf()},
			{to(-1), in(-h, h-1), fullHalf()},
			{full(), in(-h, h-1), fullHalf()},
			{one(h - 1), one(h - 1), one(h - 1)},
			{one(h), one(-h), one(1<<32 - h)},
			{one(-h), one(-h), one(1<<32 - h)},
			{one(-h - 1), one(h - 1), one(h - 1)},
			{one(2*h + 5), one(5), one(5)},
			{one(top - 1), one(-1), one(half)},
		} {
			wantExtend(t, size, false, c.a, c.wide)
			if size < 32 {
				wantExtend(t, size, true, c.a, c.narrow)
			} else {
				wantExtend(t, size, true, c.a, full())
			}
		}
	}
	for _, size := range strange(8, 16, 32) {
		for _, narrow := range both {
			for _, a := range []api.Span{one(0), one(5), in(1, 9), to(3), full()} {
				wantExtend(t, size, narrow, a, full())
			}
		}
	}
}
