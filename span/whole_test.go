package span_test

import (
	"testing"

	"warrant/api"
)

// small are all sound spans whose ends are from -n to n, or none.
func small(n int) []api.Span {
	l := []api.Span{full()}
	for lo := -n; lo <= n; lo++ {
		l = append(l, from(lo), to(lo))
		for hi := lo; hi <= n; hi++ {
			l = append(l, in(lo, hi))
		}
	}
	return l
}

// TestSmall (P6.5, P6.6): every operation of every two small spans.
func TestSmall(t *testing.T) {
	l := small(4)
	for _, op := range operations {
		for _, a := range l {
			for _, b := range l {
				wantAlu(t, op, false, a, b, alu(op, false, a, b))
				wantAlu(t, op, true, a, b, alu(op, true, a, b))
			}
		}
	}
}

// TestDrawn (P6.5, P6.6): every operation of spans of all sizes.
func TestDrawn(t *testing.T) {
	d := rolling(1)
	for _, op := range operations {
		for range 12000 {
			a, b := d.span(), d.span()
			wantAlu(t, op, false, a, b, alu(op, false, a, b))
			wantAlu(t, op, true, a, b, alu(op, true, a, b))
		}
	}
}

// TestHigh (P6.6): spans whose low halves wrap, or lie side by side in one run of 2^32, far from 0.
func TestHigh(t *testing.T) {
	d := rolling(2)
	far := []int{0, 1 << 32, -1 << 32, 1 << 33, top, -top + 1<<32, 7 << 40}
	part := func() api.Span {
		at := far[d.Intn(len(far))]
		ends := []int{0, 1, 2, 5, 31, 32, 1<<16 - 1, 1 << 16, 1<<31 - 1, 1 << 31, half - 31, half - 1, half, half + 1, -1, -5}
		lo, hi := at+ends[d.Intn(len(ends))], at+ends[d.Intn(len(ends))]
		return in(max(-top, min(lo, hi, top)), min(top, max(lo, hi)))
	}
	for _, op := range operations {
		for range 6000 {
			a, b := part(), part()
			wantAlu(t, op, true, a, b, alu(op, true, a, b))
			wantLow(t, a, low(a))
			wantNotZero(t, true, b, notZero(true, b))
		}
	}
}

// TestCounts (P6.5, P6.6): shifts by all counts from some below 0 to some past 63, single ones and ranges of them.
func TestCounts(t *testing.T) {
	as := []api.Span{in(-3, 5), in(3, 5), in(-9, -2), in(0, 1), one(-1), in(1, top), in(-top, 0), in(1, half), in(0, 1<<31), from(1), to(-1), full()}
	for _, op := range []int{api.OpLsh, api.OpRsh, api.OpArsh} {
		for lo := -34; lo <= 130; lo++ {
			for _, hi := range []int{lo, lo + 1, lo + 7, lo + 31, 31, 32, 63, 64} {
				if hi < lo {
					continue
				}
				for _, a := range as {
					for _, b := range []api.Span{in(lo, hi), in(1<<32+lo, 1<<32+hi), from(lo), to(hi)} {
						wantAlu(t, op, false, a, b, alu(op, false, a, b))
						wantAlu(t, op, true, a, b, alu(op, true, a, b))
					}
				}
			}
		}
	}
}

// TestOthers (P6.1 to P6.3, P6.7, P6.8): the calls of one span, of spans of all sizes.
func TestOthers(t *testing.T) {
	d := rolling(3)
	l := append(append(small(6), few()...), unsound()...)
	for range 6000 {
		l = append(l, d.span())
	}
	for _, a := range l {
		wantLow(t, a, low(a))
		for _, is := range both {
			wantNotZero(t, is, a, notZero(is, a))
			for _, size := range []int{8, 16, 32, 64} {
				wantSwap(t, size, is, a, swap(size, is, a))
				wantExtend(t, size, is, a, extend(size, is, a))
			}
		}
		lo, hi := limits(a)
		for _, v := range []int{d.end(), d.within(a), least, greatest, 0} {
			wantHas(t, a, v, lo.Cmp(num(v)) <= 0 && num(v).Cmp(hi) <= 0)
		}
		wantOf(t, int(lo.Int64()), int(hi.Int64()), reach(lo, hi))
	}
}
