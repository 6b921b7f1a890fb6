package span_test

import (
	"testing"

	"warrant/api"
	"warrant/span"
	"warrant/word"
)

// These hold the spans against what package word does with numbers of theirs (P6.9), whatever the rows say.

// wantSound: an answer is sound.
func wantSound(t *testing.T, what string, s api.Span) {
	t.Helper()
	if !sound(s) {
		t.Errorf("%s: %+v is not sound", what, s)
	}
}

// wantJoined: what an operation makes of two numbers, if it is no error, is one of the span's.
func wantJoined(t *testing.T, op int, narrow bool, a, b, got api.Span, v, w int) {
	t.Helper()
	x, e := word.Alu(op, narrow, v, w)
	if e == api.OK && !span.Has(got, x) {
		t.Errorf("%s: %s, without %d, of %d and %d", called(op, narrow, a, b), told(got), x, v, w)
	}
}

// TestAluHolds (P6.9): of spans of all sizes, and numbers at their ends and between.
func TestAluHolds(t *testing.T) {
	d := rolling(4)
	for _, op := range operations {
		for range 6000 {
			a, b := d.span(), d.span()
			for _, narrow := range both {
				got := span.Alu(op, narrow, a, b)
				wantSound(t, called(op, narrow, a, b), got)
				for range 12 {
					wantJoined(t, op, narrow, a, b, got, d.within(a), d.within(b))
				}
			}
		}
	}
}

// TestAluHoldsSmall (P6.9): of all spans of a few numbers, and of all these numbers; and of those about 2^31, 2^32 and 32, where narrow ones turn.
func TestAluHoldsSmall(t *testing.T) {
	var l []api.Span
	for _, at := range []int{-1, 31, 63, 1<<31 - 1, half, -1 << 31, top - 2, -top + 1} {
		l = append(l, in(at-1, at), in(at-1, at+1), in(at, at+2))
	}
	for _, op := range operations {
		for _, a := range l {
			for _, b := range l {
				for _, narrow := range both {
					got := span.Alu(op, narrow, a, b)
					for v := a.Lo; v <= a.Hi; v++ {
						for w := b.Lo; w <= b.Hi; w++ {
							wantJoined(t, op, narrow, a, b, got, v, w)
						}
					}
				}
			}
		}
	}
}

// TestUnsoundHolds (P6.9): a span that is not sound has all numbers.
func TestUnsoundHolds(t *testing.T) {
	d := rolling(5)
	bad := unsound()
	for range 20000 {
		op := operations[d.Intn(len(operations))]
		a, b, narrow := bad[d.Intn(len(bad))], d.span(), d.Intn(2) == 0
		if d.Intn(2) == 0 {
			a, b = b, a
		}
		got := span.Alu(op, narrow, a, b)
		wantSound(t, called(op, narrow, a, b), got)
		wantJoined(t, op, narrow, a, b, got, d.within(a), d.within(b))
	}
}

// TestOthersHold (P6.9): Swap, Extend, Low, NotZero and Bytes.
func TestOthersHold(t *testing.T) {
	d := rolling(6)
	l := append(append(small(3), few()...), unsound()...)
	for range 4000 {
		l = append(l, d.span())
	}
	for _, a := range l {
		halves := span.Low(a)
		wantSound(t, "Low("+told(a)+")", halves)
		for range 8 {
			v := d.within(a)
			if !span.Has(halves, v&half) {
				t.Errorf("Low(%s): %s, without that of %d", told(a), told(halves), v)
			}
			if v == 0 && span.NotZero(false, a) || v&half == 0 && span.NotZero(true, a) {
				t.Errorf("NotZero of %s, which has %d", told(a), v)
			}
			for _, is := range both {
				for _, size := range []int{8, 16, 32, 64} {
					wantKept(t, "Swap", span.Swap(size, is, a), word.Swap(size, is, v), size, v, is, a)
					wantKept(t, "Extend", span.Extend(size, is, a), word.Extend(size, is, v), size, v, is, a)
				}
			}
		}
	}
	for size := range 9 {
		for range 200 {
			v := d.within(full())
			for _, signed := range both {
				s := span.Bytes(size, signed)
				wantSound(t, "Bytes", s)
				if size > 0 && !span.Has(s, word.Get(word.Put(size, v), signed)) {
					t.Errorf("Bytes(%d, %v): %s, without that of %d", size, signed, told(s), v)
				}
			}
		}
	}
}

// wantKept: what became of a number is in what became of its span.
func wantKept(t *testing.T, call string, got api.Span, x, size, v int, is bool, a api.Span) {
	t.Helper()
	if !sound(got) || !span.Has(got, x) {
		t.Errorf("%s(%d, %v, %s): %s, without %d, of %d", call, size, is, told(a), told(got), x, v)
	}
}

// TestSingleStays (P6.9): of single spans the answer is single, if the number is from -Most to Most.
func TestSingleStays(t *testing.T) {
	d := rolling(7)
	for range 30000 {
		op, narrow := operations[d.Intn(len(operations))], d.Intn(2) == 0
		v, w := d.end(), d.end()
		x, e := word.Alu(op, narrow, v, w)
		got := span.Alu(op, narrow, one(v), one(w))
		if e == api.OK && -top <= x && x <= top && got != one(x) {
			t.Errorf("%s: %s; want %d alone", called(op, narrow, one(v), one(w)), told(got), x)
		}
	}
}

// TestTaken: an answer can be handed in again, and is read as it is; what is full stays full.
func TestTaken(t *testing.T) {
	d := rolling(8)
	for range 20000 {
		s := span.Alu(operations[d.Intn(len(operations))], d.Intn(2) == 0, d.span(), d.span())
		wantAlu(t, api.OpMov, false, full(), s, s)
		wantSwap(t, 64, false, s, s)
		if (s == full()) != (span.Has(s, least) && span.Has(s, greatest)) {
			t.Errorf("%s", told(s))
		}
	}
}
