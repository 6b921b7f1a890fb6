package span_test

import (
	"math/rand"
	"slices"

	"warrant/api"
)

// unsound are spans that are not sound, in every way.
func unsound() []api.Span {
	l := []api.Span{in(3, 1), in(0, -1), in(1, 0), in(top, -top), in(top, top-1), {NoLo: true, Lo: 3, NoHi: true, Hi: 4}}
	for _, v := range []int{1, -1, 5, -5, top, -top, top + 1, least, greatest} {
		l = append(l,
			api.Span{NoLo: true, Lo: v, Hi: 7}, api.Span{NoLo: true, Lo: v, Hi: -7}, api.Span{NoLo: true, Lo: v, Hi: v}, api.Span{NoLo: true, Lo: v, NoHi: true},
			api.Span{NoHi: true, Hi: v, Lo: 7}, api.Span{NoHi: true, Hi: v, Lo: -7}, api.Span{NoHi: true, Hi: v, Lo: v}, api.Span{NoHi: true, Hi: v, NoLo: true},
		)
	}
	for _, v := range []int{top + 1, greatest} {
		l = append(l, in(v, v), in(-v, -v), in(1, v), in(-v, -1), in(-v, v), from(v), from(-v), to(v), to(-v))
	}
	return append(l, in(least, least), in(least, 5), from(least), to(least))
}

// few are numbers at which something changes for many operations, as single spans, and some wider ones about them.
func few() []api.Span {
	var l []api.Span
	for _, v := range []int{0, 1, -1, 31, 32, 63, 64, 1 << 31, -1 << 31, 1 << 32, half, top, -top} {
		l = append(l, from(v), to(v))
		if v < top {
			l = append(l, in(v, v+1))
		}
	}
	return l
}

// strange are numbers that are none of those known, some of them with the same low bits.
func strange(known ...int) []int {
	l := []int{least, greatest, -1 << 32, 1 << 32}
	for _, v := range known {
		l = append(l, least+v, 1<<32+v, 1<<16+v, 1<<8+v, -v)
	}
	for v := -70; v <= 300; v++ {
		if !slices.Contains(known, v) {
			l = append(l, v)
		}
	}
	return l
}

// edges are the numbers about powers of 2, as far as the ends of spans go, and some others.
func edges() []int {
	l := []int{0, 1, -1, 2, -2, 3, -3, 5, -5, 7, -7, 10, -10, 12, 100, -100, 30, 33, 62, 65, 96, 0x12345678, -0x12345678, 0x123456789abcdef, -0x123456789abcdef}
	for _, k := range []int{4, 5, 6, 7, 8, 15, 16, 30, 31, 32, 33, 47, 59} {
		for _, v := range []int{1 << k, -1 << k} {
			l = append(l, v-1, v, v+1)
		}
	}
	return append(l, -top, 1-top, 2-top, top-2, top-1, top)
}

// dice draws spans and numbers; the same ones each time.
type dice struct {
	*rand.Rand
	ends []int
}

func rolling(seed int64) dice { return dice{rand.New(rand.NewSource(seed)), edges()} }

// end is one of the edges, or any that a span may have: of every size.
func (d dice) end() int {
	if d.Intn(3) > 0 {
		return d.ends[d.Intn(len(d.ends))]
	}
	v := int(d.Uint64()>>4) >> d.Intn(60)
	if d.Intn(2) == 0 {
		return -v
	}
	return v
}

// span is a sound one: some single, some narrow, some without an end.
func (d dice) span() api.Span {
	lo, hi := d.end(), d.end()
	switch d.Intn(12) {
	case 0:
		return one(lo)
	case 1:
		return from(lo)
	case 2:
		return to(hi)
	case 3:
		return in(lo, min(top, lo+d.Intn(70)))
	case 4:
		if d.Intn(4) == 0 {
			return full()
		}
	case 5:
		lo, hi = d.Intn(70)-2, d.Intn(70)-2
	}
	return in(min(lo, hi), max(lo, hi))
}

// within is a number of a span as it is read: an end, one beside it, or any.
func (d dice) within(s api.Span) int {
	low, high := limits(s)
	lo, hi := int(low.Int64()), int(high.Int64())
	switch d.Intn(7) {
	case 0:
		return lo
	case 1:
		return hi
	case 2: // neither leaves an int: lo is at most Most, hi at least -Most
		return min(lo+d.Intn(3), hi)
	case 3:
		return max(hi-d.Intn(3), lo)
	case 4:
		if lo <= 0 && hi >= 0 {
			return 0
		}
	}
	if room := uint64(hi) - uint64(lo); room < greatest {
		return lo + int(d.Uint64()%(room+1))
	}
	for {
		if v := int(d.Uint64()); lo <= v && v <= hi {
			return v
		}
	}
}
