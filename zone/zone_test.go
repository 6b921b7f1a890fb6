package zone_test

import (
	"math"
	"slices"
	"testing"

	"warrant/api"
	"warrant/zone"
)

// The variables of the chapter's examples.
const (
	x = 2
	y = 3
	z = 4
)

func con(i, j, c int) api.Con { return api.Con{I: i, J: j, C: c} }

func cons(cs ...api.Con) []api.Con { return cs }

// ranged says that a variable is from lo to hi.
func ranged(v, lo, hi int) []api.Con { return cons(con(v, 0, hi), con(0, v, -lo)) }

// right is a zone that was not refused.
func right(t *testing.T, z *zone.Zone, e api.Errno) *zone.Zone {
	t.Helper()
	if z == nil || e != api.OK {
		t.Fatalf("refused: %v, %v", z, e)
	}
	return z
}

func with(t *testing.T, z *zone.Zone, cs ...api.Con) *zone.Zone {
	t.Helper()
	w, e := z.With(cs...)
	return right(t, w, e)
}

func made(t *testing.T, cs ...api.Con) *zone.Zone {
	t.Helper()
	return with(t, zone.New(), cs...)
}

func closing(t *testing.T, cs ...api.Con) *zone.Zone {
	t.Helper()
	w, e := zone.Close(cs...)
	return right(t, w, e)
}

func assign(t *testing.T, z *zone.Zone, x, y, c int) *zone.Zone {
	t.Helper()
	w, e := z.Assign(x, y, c)
	return right(t, w, e)
}

func put(t *testing.T, z *zone.Zone, x int, up, down []api.Bound) *zone.Zone {
	t.Helper()
	w, e := z.Put(x, up, down)
	return right(t, w, e)
}

// void is the empty zone.
func void(t *testing.T) *zone.Zone {
	t.Helper()
	return made(t, con(x, x, -1))
}

// zeros has one assignment: all variables are 0.
func zeros(t *testing.T) *zone.Zone {
	t.Helper()
	var l []api.Con
	for v := range vars {
		l = append(l, ranged(v, 0, 0)...)
	}
	return made(t, l...)
}

// bounds is a list for Put: of each number a bound, of all others none.
func bounds(l map[int]int) []api.Bound {
	b := make([]api.Bound, vars)
	for v, c := range l {
		b[v] = is(c)
	}
	return b
}

// open is not closed: nothing is said of x less z, though x less y and y less z are at most 1.
func open(t *testing.T) *zone.Zone {
	t.Helper()
	return made(t, con(x, y, 1), con(y, z, 1), con(x, z, 0)).Widen(made(t, con(x, y, 1), con(y, z, 1)))
}

func wantEmpty(t *testing.T, z *zone.Zone) {
	t.Helper()
	if !z.Empty() {
		t.Errorf("got %s; want the empty zone", told(z))
	}
	if l := z.Cons(); len(l) != 0 {
		t.Errorf("the empty zone has Cons %s", list(l))
	}
}

// wantZone: all bounds of the zone are these.
func wantZone(t *testing.T, z *zone.Zone, cs ...api.Con) {
	t.Helper()
	cs = slices.Clone(cs)
	slices.SortFunc(cs, func(a, b api.Con) int { return vars*(a.I-b.I) + a.J - b.J })
	if z.Empty() || !slices.Equal(z.Cons(), cs) {
		t.Errorf("got %s; want %s", told(z), list(cs))
	}
}

func wantBound(t *testing.T, z *zone.Zone, i, j int, b api.Bound) {
	t.Helper()
	if got := z.Bound(i, j); got != b {
		t.Errorf("of %s: Bound(%d, %d) = %v; want %v", told(z), i, j, got, b)
	}
}

// wantRefused: a call answers nothing but its error.
func wantRefused(t *testing.T, want api.Errno) func(*zone.Zone, api.Errno) {
	return func(z *zone.Zone, e api.Errno) {
		t.Helper()
		if z != nil || e != want {
			t.Errorf("got %s, %v; want nil, %v", told(z), e, want)
		}
	}
}

// wantLike: the zone is what the chapter's own words come to, in all that may be asked of it.
func wantLike(t *testing.T, z *zone.Zone, want reckoned) {
	t.Helper()
	if z.Empty() != want.empty {
		t.Fatalf("got %s; want %s (empty: %v)", told(z), list(want.cons()), want.empty)
	}
	for i := -1; i <= vars; i++ {
		for j := -1; j <= vars; j++ {
			if b := z.Bound(i, j); b != want.bound(i, j) {
				t.Fatalf("Bound(%d, %d) = %v; want %v, of %s", i, j, b, want.bound(i, j), list(want.cons()))
			}
		}
	}
	if l := z.Cons(); !slices.Equal(l, want.cons()) {
		t.Fatalf("Cons() = %s; want %s", list(l), list(want.cons()))
	}
}

// TestExamples: every row of the chapter's section Examples.
func TestExamples(t *testing.T) {
	wantZone(t, zone.New())
	wantBound(t, zone.New(), 3, 3, is(0))
	wantBound(t, zone.New(), 3, 4, api.Bound{})
	wantBound(t, zone.New(), 0, 60, api.Bound{})

	two := made(t, con(2, 3, 1), con(3, 4, 2))
	wantZone(t, two, con(x, y, 1), con(x, z, 3), con(y, z, 2))
	wantEmpty(t, with(t, two, con(4, 2, -4)))
	wantZone(t, with(t, two, con(4, 2, -3)), con(x, y, 1), con(x, z, 3), con(y, x, -1), con(y, z, 2), con(z, x, -3), con(z, y, -2))

	wantRefused(t, api.ErrVar)(zone.New().With(con(2, 0, 5), con(0, 2, -5), con(60, 0, 1)))
	wantRefused(t, api.ErrConst)(zone.New().With(con(2, 0, 1<<60+1)))
	wantEmpty(t, made(t, con(2, 2, -1)))
	wantZone(t, made(t, con(2, 2, 7)))

	five := made(t, con(2, 0, 5), con(0, 2, 0))
	moved := assign(t, five, 3, 2, 4)
	wantBound(t, moved, 3, 0, is(9))
	wantBound(t, moved, 0, 3, is(-4))
	wantBound(t, moved, 3, 2, is(4))
	less := assign(t, five, 2, 2, -1)
	wantBound(t, less, 2, 0, is(4))
	wantBound(t, less, 0, 2, is(1))
	wantBound(t, assign(t, five, 2, 0, 7), 2, 0, is(7))
	wantBound(t, assign(t, made(t, con(x, 0, 1<<60)), 2, 2, 1), 2, 0, api.Bound{})
	wantZone(t, five.Forget(2, 0, 99))

	wantZone(t, put(t, made(t, con(x, y, 1), con(y, z, 2), con(x, z, 3)), 3, bounds(nil), bounds(nil)), con(x, z, 3))
	wantZone(t, put(t, five, 3, bounds(map[int]int{2: 1}), bounds(map[int]int{0: -2})),
		con(0, x, -1), con(x, 0, 5), con(0, y, -2), con(y, 0, 6), con(y, x, 1), con(x, y, 3))
	wantZone(t, five.Join(made(t, ranged(x, 2, 9)...)), ranged(x, 0, 9)...)
	wantZone(t, five.Widen(made(t, ranged(x, 0, 6)...)), con(0, x, 0))
	wantEmpty(t, closing(t, con(2, 3, 1), con(3, 2, -2)))
	wantZone(t, closing(t, con(2, 3, 4), con(2, 3, 1)), con(x, y, 1))
}

// TestNew (P5.1): no bound but those of a variable less itself.
func TestNew(t *testing.T) {
	n := zone.New()
	wantLike(t, n, blank())
	if n.Empty() {
		t.Error("New() is empty")
	}
	if l := n.Cons(); len(l) != 0 {
		t.Errorf("New() has Cons %s", list(l))
	}
}

// TestBound (P5.1): bounds there, none there, and numbers that are no variable's.
func TestBound(t *testing.T) {
	w := made(t, con(x, 59, -7), con(1, 0, most), con(0, 1, -most))
	wantBound(t, w, x, 59, is(-7))
	wantBound(t, w, 59, x, api.Bound{})
	wantBound(t, w, 1, 0, is(most))
	wantBound(t, w, 0, 1, is(-most))
	for v := range vars {
		wantBound(t, w, v, v, is(0))
		wantBound(t, void(t), v, v, api.Bound{})
		wantBound(t, void(t), v, 0, api.Bound{})
	}
	for _, v := range []int{math.MinInt, -most, -61, -60, -1, 60, 61, 119, 120, 3600, most, math.MaxInt} {
		for _, other := range []int{0, 1, x, 59, v, -v} {
			for _, now := range []*zone.Zone{w, zone.New(), void(t)} {
				wantBound(t, now, v, other, api.Bound{})
				wantBound(t, now, other, v, api.Bound{})
			}
		}
	}
}

// TestCons (P5.1): rising by I, then by J, whatever the order in which the bounds came; those of like variables are not told.
func TestCons(t *testing.T) {
	want := cons(con(0, 59, 4), con(1, 58, -3), con(20, 10, 0), con(20, 11, 5), con(59, 0, 2))
	for n := range want {
		l := slices.Concat(want[n:], want[:n])
		for range 2 {
			slices.Reverse(l)
			wantZone(t, made(t, l...), want...)
			wantZone(t, made(t, append(l, con(n, n, 0), con(30, 30, 7))...), want...)
			wantZone(t, closing(t, l...), want...)
		}
	}
	wantZone(t, closing(t, con(59, 0, 1), con(1, 0, 1), con(1, 0, 2), con(5, 5, 3)), con(1, 0, 1), con(59, 0, 1))
	if l := void(t).Cons(); len(l) != 0 {
		t.Errorf("the empty zone has Cons %s", list(l))
	}
}

// TestSame (P5.1): both empty, however they became so, or neither, and the same bounds.
func TestSame(t *testing.T) {
	want := func(a, b *zone.Zone, is bool) {
		t.Helper()
		if a.Same(b) != is || b.Same(a) != is {
			t.Errorf("Same of %s and %s: %v, %v; want %v", told(a), told(b), a.Same(b), b.Same(a), is)
		}
	}
	five := made(t, ranged(x, 0, 5)...)
	empty := []*zone.Zone{
		void(t), with(t, five, con(0, x, -6)), closing(t, con(y, z, 1), con(z, y, -2)), closing(t, con(0, 0, -1)),
		put(t, five, y, bounds(map[int]int{0: 1}), bounds(map[int]int{0: -2})), with(t, open(t), con(z, x, -3)),
	}
	others := []*zone.Zone{
		zone.New(), five, made(t, ranged(x, 0, 6)...), made(t, ranged(x, 1, 5)...), made(t, con(x, 0, 5)), made(t, con(0, x, 0)),
		made(t, ranged(y, 0, 5)...), made(t, con(x, 0, 0)), made(t, con(59, 58, -most)), made(t, con(58, 59, -most)), made(t, con(59, 58, most)), open(t), zeros(t),
	}
	for n, a := range empty {
		wantEmpty(t, a)
		for _, b := range empty[n:] {
			want(a, b, true)
		}
		for _, b := range others {
			want(a, b, false)
		}
	}
	for n, a := range others {
		for m, b := range others {
			want(a, b, n == m)
		}
	}
	want(five, closing(t, ranged(x, 0, 5)...), true)
	want(five, made(t, con(0, x, 0), con(y, y, 1), con(x, 0, 9), con(x, 0, 5)), true)
	want(zone.New(), five.Forget(x), true)
}

// TestErrors (Errors): of a list of Cons the first wrong one is told, of the empty zone too, ahead of anything else.
func TestErrors(t *testing.T) {
	var noVar []api.Con
	for _, v := range []int{-1, 60, math.MinInt, math.MaxInt} {
		noVar = append(noVar, con(v, 0, 1), con(0, v, 1), con(v, v, 1), con(v, v, -1), con(v, 3, most+1), con(3, v, -most-1))
	}
	var noBound []api.Con
	for _, c := range []int{most + 1, -most - 1, math.MaxInt, math.MinInt} {
		noBound = append(noBound, con(x, y, c), con(0, 59, c), con(x, x, c))
	}
	good := cons(con(0, 59, most), con(59, 0, -most), con(x, x, most), con(x, y, 1), con(0, 0, -1), con(y, x, -9))
	zones := []*zone.Zone{zone.New(), made(t, ranged(x, 0, 5)...), void(t)}
	refused := func(e api.Errno, l ...api.Con) {
		t.Helper()
		for _, w := range zones {
			wantRefused(t, e)(w.With(l...))
		}
		wantRefused(t, e)(zone.Close(l...))
	}
	for _, v := range noVar {
		refused(api.ErrVar, v)
		refused(api.ErrVar, append(slices.Clone(good), v)...)
		refused(api.ErrVar, append(cons(v), good...)...)
		for _, c := range noBound {
			refused(api.ErrVar, v, c)
			refused(api.ErrVar, good[0], v, good[4], c)
			refused(api.ErrConst, c, v)
			refused(api.ErrConst, good[4], good[1], c, v, c)
		}
	}
	for _, c := range noBound {
		refused(api.ErrConst, c)
		refused(api.ErrConst, append(slices.Clone(good), c)...)
	}
	for _, g := range good {
		for _, w := range zones {
			with(t, w, g)
		}
		closing(t, g)
	}
}
