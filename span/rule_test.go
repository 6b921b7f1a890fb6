package span_test

import (
	"slices"
	"sync"
	"testing"

	"warrant/api"
	"warrant/span"
)

// odd are ints of all sorts, those that no span may have as ends among them.
func odd() []int {
	return []int{least, least + 1, -1<<62 - 1, -1 << 62, -top - 1, -top, 1 - top, -1 << 32, -1 << 31, -64, -17, -1, 0, 1, 2, 8, 15, 16, 31, 32, 63, 64, 65, 1 << 31, half, 1 << 32, top - 1, top, top + 1, 1 << 62, greatest - 1, greatest}
}

// any is a span of any fields.
func (d dice) any() api.Span {
	l := odd()
	pick := func() int { return l[d.Intn(len(l))] }
	return api.Span{Lo: pick(), Hi: pick(), NoLo: d.Intn(3) == 0, NoHi: d.Intn(3) == 0}
}

// TestAnything (R1): each call ends, and does not panic, at whatever it is handed; what it answers is sound.
func TestAnything(t *testing.T) {
	d := rolling(9)
	l := odd()
	for n := range 150000 {
		a, b, is := d.any(), d.any(), n%2 == 0
		op, v := l[d.Intn(len(l))], l[d.Intn(len(l))]
		if n%3 > 0 {
			op = operations[d.Intn(len(operations))]
		}
		wantAlu(t, op, is, a, b, alu(op, is, a, b))
		wantSwap(t, v, is, a, swap(v, is, a))
		wantExtend(t, v, is, a, extend(v, is, a))
		wantBytes(t, v, is, bytesOf(v, is))
		wantLow(t, a, low(a))
		wantNotZero(t, is, a, notZero(is, a))
		wantOf(t, op, v, of(op, v))
		lo, hi := limits(a)
		wantHas(t, a, v, num(v).Cmp(lo) >= 0 && num(v).Cmp(hi) <= 0)
	}
}

// of is P6.1's Of.
func of(lo, hi int) api.Span {
	if lo > hi {
		return full()
	}
	return reach(num(lo), num(hi))
}

// answers are those of many calls, of arguments that hang on the seed alone.
func answers(seed int64, backwards bool) []api.Span {
	type call struct {
		op     int
		narrow bool
		a, b   api.Span
	}
	var calls []call
	d := rolling(seed)
	for range 3000 {
		calls = append(calls, call{operations[d.Intn(len(operations))], d.Intn(2) == 0, d.span(), d.any()})
	}
	if backwards {
		slices.Reverse(calls)
	}
	var l []api.Span
	for _, c := range calls {
		l = append(l, span.Alu(c.op, c.narrow, c.a, c.b), span.Swap(32, c.narrow, c.b), span.Extend(8, c.narrow, c.a), span.Low(c.b))
	}
	return l
}

// TestAgain (R4): what a call answers hangs on its arguments alone, not on the calls ahead of it.
func TestAgain(t *testing.T) {
	first, second := answers(10, false), answers(10, true)
	for n := 0; n < len(first); n += 4 {
		at := len(second) - 4 - n
		if !slices.Equal(first[n:n+4], second[at:at+4]) {
			t.Fatal("the same calls in another order answer otherwise")
		}
	}
	if !slices.Equal(first, answers(10, false)) {
		t.Fatal("the same calls answer otherwise")
	}
}

// TestSideBySide (R4): calls side by side answer the same.
func TestSideBySide(t *testing.T) {
	want := answers(11, false)
	wrong := make([]bool, 8)
	var all sync.WaitGroup
	for n := range wrong {
		all.Go(func() { wrong[n] = !slices.Equal(answers(11, false), want) })
	}
	all.Wait()
	if slices.Contains(wrong, true) {
		t.Fatal("calls side by side answer otherwise")
	}
}
