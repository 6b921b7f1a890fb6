package zone_test

import (
	"math"
	"testing"

	"warrant/api"
	"warrant/zone"
)

// TestWith (P5.2): each of its four steps.
func TestWith(t *testing.T) {
	five := made(t, ranged(x, 0, 5)...)
	for _, w := range []*zone.Zone{zone.New(), five, open(t), void(t)} { // 1: i and i
		for _, v := range []int{0, x, 59} {
			for _, c := range []int{0, 1, most} {
				if now := with(t, w, con(v, v, c)); !now.Same(w) {
					t.Errorf("%d - %d <= %d makes of %s %s", v, v, c, told(w), told(now))
				}
			}
			for _, c := range []int{-1, -most} {
				wantEmpty(t, with(t, w, con(v, v, c)))
			}
		}
	}
	wantZone(t, with(t, five, con(x, 0, 5)), ranged(x, 0, 5)...) // 2: what is there already, or less
	wantZone(t, with(t, five, con(x, 0, 6), con(0, x, most)), ranged(x, 0, 5)...)
	wantZone(t, with(t, five, con(x, 0, 4)), ranged(x, 0, 4)...)
	wantZone(t, with(t, five, con(x, 0, 0)), ranged(x, 0, 0)...)
	wantZone(t, with(t, open(t), con(x, y, 1)), con(x, y, 1), con(y, z, 1)) // it does not close what is open
	wantZone(t, with(t, open(t), con(x, y, 2), con(y, z, most)), con(x, y, 1), con(y, z, 1))
	wantZone(t, with(t, open(t), con(x, y, 0)), con(x, y, 0), con(x, z, 1), con(y, z, 1))
	wantEmpty(t, with(t, five, con(x, 0, -1))) // 3: below 0 with the bound the other way round
	wantEmpty(t, with(t, five, con(0, x, -6)))
	wantZone(t, with(t, five, con(0, x, -5)), ranged(x, 5, 5)...)
	wantEmpty(t, made(t, con(x, y, most), con(y, x, -most), con(x, y, most-1)))
	wantEmpty(t, with(t, open(t), con(z, x, -3))) // 4: only the way round by y tells
	wantZone(t, with(t, open(t), con(z, x, -2)), con(x, y, 1), con(y, x, -1), con(y, z, 1), con(z, y, -1), con(z, x, -2))
	wantEmpty(t, with(t, void(t), con(x, 0, 5), con(0, x, 9))) // of the empty zone the empty one
	wantEmpty(t, with(t, void(t)))
	wantZone(t, with(t, five), ranged(x, 0, 5)...)
	wantEmpty(t, made(t, con(x, 0, -1), con(0, x, 0), con(x, 0, 7), con(y, y, 0))) // once empty, empty for good
	wantZone(t, made(t, con(0, 59, 3), con(59, 58, 4), con(1, 0, -2)),
		con(0, 58, 7), con(0, 59, 3), con(1, 0, -2), con(1, 58, 5), con(1, 59, 1), con(59, 58, 4))
}

// TestOneByOne (P5.2): bounds are added as they stand in the list, not the strictest first.
func TestOneByOne(t *testing.T) {
	wantBound(t, made(t, con(x, y, most), con(y, z, most), con(x, y, 1)), x, z, api.Bound{})
	wantBound(t, made(t, con(x, y, 1), con(y, z, most-1), con(x, y, most)), x, z, is(most))
	first := made(t, con(x, y, -most), con(y, z, -1), con(z, 0, 5)) // the sum stops at -Most, and what follows goes on from there
	other := made(t, con(z, 0, 5), con(y, z, -1), con(x, y, -most))
	wantBound(t, first, x, 0, is(5-most))
	wantBound(t, other, x, 0, is(4-most))
	for _, w := range []*zone.Zone{first, other} {
		wantBound(t, w, x, z, is(-most))
		wantBound(t, w, y, 0, is(4))
	}
}

// TestSums (Words): sums of two bounds at the two limits and one beyond them.
func TestSums(t *testing.T) {
	for _, s := range []struct {
		a, b int
		want api.Bound
	}{
		{most - 1, 1, is(most)}, {most, 0, is(most)}, {most, 1, api.Bound{}}, {most - 1, 2, api.Bound{}}, {most, most, api.Bound{}},
		{1 - most, -1, is(-most)}, {-most, 0, is(-most)}, {-most, -1, is(-most)}, {1 - most, -2, is(-most)}, {-most, -most, is(-most)},
		{-most, 1, is(1 - most)}, {most, -1, is(most - 1)}, {most, -most, is(0)}, {0, 0, is(0)},
	} {
		two := cons(con(x, y, s.a), con(y, z, s.b))
		wantBound(t, made(t, two...), x, z, s.want)
		wantBound(t, made(t, two[1], two[0]), x, z, s.want)
		wantBound(t, closing(t, two...), x, z, s.want)
		up, down := made(t, con(x, 0, s.a)), made(t, con(0, x, s.a))
		wantBound(t, assign(t, up, y, x, s.b), y, 0, s.want)
		wantBound(t, assign(t, up, x, x, s.b), x, 0, s.want)
		wantBound(t, assign(t, down, y, x, -s.b), 0, y, s.want)
		wantBound(t, assign(t, down, x, x, -s.b), 0, x, s.want)
		wantBound(t, put(t, up, y, bounds(map[int]int{x: s.b}), bounds(nil)), y, 0, s.want)
		wantBound(t, put(t, down, y, bounds(nil), bounds(map[int]int{x: s.b})), 0, y, s.want)
		wantBound(t, put(t, zone.New(), y, bounds(map[int]int{z: s.a}), bounds(map[int]int{x: s.b})), x, z, s.want)
	}
	three := made(t, con(x, 0, -most), con(0, y, -1)) // (a + b) + c: a + b stops at -Most ahead of c
	wantBound(t, with(t, made(t, con(59, x, -most), con(y, z, 7)), con(x, y, -1)), 59, z, is(7-most))
	wantBound(t, three, x, y, is(-most))
	far := made(t, con(59, x, most), con(y, z, -7)) // or is none, whatever c is
	wantBound(t, with(t, far, con(x, y, 1)), 59, z, api.Bound{})
	wantBound(t, with(t, far, con(x, y, 0)), 59, z, is(most-7))
}

// TestClose (P5.3): the least of a list, all ways, and the empty zone.
func TestClose(t *testing.T) {
	wantZone(t, closing(t))
	wantZone(t, closing(t, con(x, x, 0), con(y, y, most)))
	wantEmpty(t, closing(t, con(x, x, -1)))
	wantEmpty(t, closing(t, con(x, 0, 5), con(59, 59, -most), con(59, 59, 3)))
	wantZone(t, closing(t, con(x, y, 3), con(x, y, -2), con(x, y, 7)), con(x, y, -2))
	wantZone(t, closing(t, con(59, 1, 1), con(1, 0, 1), con(0, 58, 1)),
		con(0, 58, 1), con(1, 0, 1), con(1, 58, 2), con(59, 0, 2), con(59, 1, 1), con(59, 58, 3))
	wantZone(t, closing(t, con(x, y, 1), con(y, x, -1)), con(x, y, 1), con(y, x, -1))
	wantEmpty(t, closing(t, con(x, y, 1), con(y, z, 1), con(z, x, -3)))
	wantZone(t, closing(t, con(x, y, 1), con(y, z, 1), con(z, x, -2)),
		con(x, y, 1), con(y, x, -1), con(y, z, 1), con(z, y, -1), con(z, x, -2), con(x, z, 2))
	wantEmpty(t, closing(t, con(x, y, -most), con(y, x, -most)))
	var ring []api.Con // every variable is one less than the next
	for v := range vars {
		ring = append(ring, con(v, (v+1)%vars, -1))
	}
	wantEmpty(t, closing(t, ring...))
	ring[17].C = vars - 1
	w := closing(t, ring...)
	wantBound(t, w, 0, 17, is(-17))
	wantBound(t, w, 18, 17, is(-vars+1))
	wantBound(t, w, 17, 18, is(vars-1))
	ring[17].C--
	wantEmpty(t, closing(t, ring...))
}

// TestForget (P5.4): all bounds of the variables go, no others, and none of 0 or of what is no variable.
func TestForget(t *testing.T) {
	w := made(t, con(x, y, 1), con(y, z, 2), con(z, 0, 3), con(0, 59, 4), con(0, x, -1))
	for _, v := range []int{0, -1, 60, -x, math.MinInt, math.MaxInt, vars + x} {
		if now := w.Forget(v, v); !now.Same(w) {
			t.Errorf("Forget(%d) leaves %s", v, told(now))
		}
	}
	if now := w.Forget(); !now.Same(w) {
		t.Errorf("Forget() leaves %s", told(now))
	}
	gone := func(vs ...int) {
		t.Helper()
		var want []api.Con
		for _, c := range w.Cons() {
			stay := true
			for _, v := range vs {
				stay = stay && (v == 0 || c.I != v && c.J != v)
			}
			if stay {
				want = append(want, c)
			}
		}
		now := w.Forget(vs...)
		wantZone(t, now, want...)
		for v := range vars {
			wantBound(t, now, v, v, is(0))
		}
		wantEmpty(t, void(t).Forget(vs...))
	}
	for v := range vars {
		gone(v)
		gone(v, x)
		gone(-7, y, v, v, 99, 0)
	}
	gone(x, y, z, 59)
}

// TestAssign (P5.5): of another variable, of 0, of itself.
func TestAssign(t *testing.T) {
	w := made(t, con(x, y, 1), con(y, x, 3), con(x, 0, 9), con(0, z, -2))
	wantZone(t, assign(t, w, z, x, 5),
		con(x, y, 1), con(y, x, 3), con(x, 0, 9), con(y, 0, 12), con(z, x, 5), con(x, z, -5), con(z, y, 6), con(y, z, -2), con(z, 0, 14))
	wantZone(t, assign(t, w, x, 0, -4),
		con(0, z, -2), con(x, 0, -4), con(0, x, 4), con(x, z, -6), con(y, 0, 12), con(y, x, 16), con(y, z, 10))
	wantZone(t, assign(t, w, x, x, 100),
		con(x, y, 101), con(y, x, -97), con(x, 0, 109), con(0, z, -2), con(y, 0, 12), con(x, z, 107), con(y, z, 10))
	wantZone(t, assign(t, w, x, x, 0), w.Cons()...)
	wantZone(t, assign(t, zone.New(), 59, 58, most), con(59, 58, most), con(58, 59, -most))
	wantZone(t, assign(t, zone.New(), 1, 0, -most), con(1, 0, -most), con(0, 1, most))
	wantZone(t, assign(t, zone.New(), x, x, -most))
	wantZone(t, assign(t, open(t), x, z, 0), con(x, z, 0), con(z, x, 0), con(y, x, 1), con(y, z, 1)) // of open ones too
	wantZone(t, assign(t, made(t, con(x, 0, most), con(0, x, -most)), x, x, 1), con(0, x, -most))
	wantZone(t, assign(t, made(t, con(x, 0, most), con(0, x, -most)), y, x, -1),
		con(x, 0, most), con(0, x, -most), con(x, y, 1), con(y, x, -1), con(y, 0, most-1), con(0, y, 1-most))
	for v := 1; v < vars; v++ {
		wantEmpty(t, assign(t, void(t), v, vars-v, 1))
		now := assign(t, made(t, ranged(v, 1, 2)...), v, v, 1)
		wantZone(t, now, ranged(v, 2, 3)...)
	}
}

// TestAssignRefused (P5.5): its errors, also of the empty zone, and the first of two.
func TestAssignRefused(t *testing.T) {
	far := []int{most + 1, -most - 1, math.MaxInt, math.MinInt}
	for _, w := range []*zone.Zone{zone.New(), made(t, ranged(x, 0, 5)...), void(t)} {
		for _, c := range append(far, 0, most, -most) {
			for _, v := range []int{-1, 60, math.MinInt, math.MaxInt} {
				wantRefused(t, api.ErrVar)(w.Assign(v, x, c))
				wantRefused(t, api.ErrVar)(w.Assign(x, v, c))
				wantRefused(t, api.ErrVar)(w.Assign(v, v, c))
			}
			wantRefused(t, api.ErrVar)(w.Assign(0, 0, c))
			wantRefused(t, api.ErrVar)(w.Assign(0, x, c))
		}
		for _, c := range far {
			wantRefused(t, api.ErrConst)(w.Assign(1, 0, c))
			wantRefused(t, api.ErrConst)(w.Assign(59, 59, c))
		}
	}
}

// TestPut (P5.6): what a variable's own bounds make of the others, and what was known of it goes.
func TestPut(t *testing.T) {
	w := made(t, con(x, 0, 5), con(0, x, 0), con(y, x, 1), con(z, y, 1))
	wantZone(t, put(t, w, y, bounds(nil), bounds(nil)), con(x, 0, 5), con(0, x, 0), con(z, 0, 7), con(z, x, 2))
	wantZone(t, put(t, w, y, bounds(map[int]int{x: 3, 0: 7}), bounds(map[int]int{z: -9})), // y is at least z + 9, and at most x + 3
		con(x, 0, 5), con(0, x, 0), con(y, x, 3), con(y, 0, 7), con(z, y, -9), con(z, x, -6), con(z, 0, -2))
	same := made(t, con(x, y, 1), con(y, x, 1)) // the ways by x itself are not gone
	wantZone(t, put(t, same, x, bounds(map[int]int{y: 4, x: -50}), bounds(map[int]int{y: 6, x: -50})), con(x, y, 4), con(y, x, 6))
	wantEmpty(t, put(t, w, 59, bounds(map[int]int{x: -1}), bounds(map[int]int{x: 0})))
	wantEmpty(t, put(t, w, 59, bounds(map[int]int{x: -1}), bounds(map[int]int{0: -5}))) // at most x - 1, at least 5
	wantZone(t, put(t, made(t, ranged(x, 0, 5)...), 59, bounds(map[int]int{x: -1}), bounds(map[int]int{0: -4})),
		con(x, 0, 5), con(0, x, -5), con(59, 0, 4), con(0, 59, -4), con(59, x, -1), con(x, 59, 1))
	wantEmpty(t, put(t, void(t), x, bounds(nil), bounds(nil)))
	wantZone(t, put(t, open(t), 1, bounds(map[int]int{x: 0}), bounds(map[int]int{x: 0})), // one step by what is there, of open ones
		con(1, x, 0), con(x, 1, 0), con(1, y, 1), con(x, y, 1), con(y, z, 1))
	wantZone(t, put(t, open(t), y, bounds(map[int]int{x: -9}), bounds(map[int]int{z: -9})), // what y was says nothing any more
		con(y, x, -9), con(z, y, -9), con(z, x, -18))
	for v := 1; v < vars; v++ {
		other := v%59 + 1
		wantZone(t, put(t, zone.New(), v, bounds(map[int]int{0: most, other: -most}), bounds(map[int]int{other: most})),
			con(v, 0, most), con(v, other, -most), con(other, v, most))
	}
}

// TestPutOdd (P5.6): where Is is false C is not looked at, nor what stands at x's own place.
func TestPutOdd(t *testing.T) {
	five := made(t, ranged(x, 0, 5)...)
	want := put(t, five, y, bounds(map[int]int{x: 1}), bounds(map[int]int{0: -2}))
	for _, c := range []int{most + 1, -most - 1, math.MaxInt, math.MinInt, -1, 7} {
		up, down := bounds(map[int]int{x: 1, y: c}), bounds(map[int]int{0: -2, y: c})
		for v := range vars {
			if !up[v].Is {
				up[v].C = c
			}
			if !down[v].Is {
				down[v].C = -c
			}
		}
		if now := put(t, five, y, up, down); !now.Same(want) {
			t.Errorf("with %d in places that are not looked at: %s; want %s", c, told(now), told(want))
		}
		wantEmpty(t, put(t, void(t), y, up, down))
	}
}

// TestPutRefused (P5.6): its errors, also of the empty zone; the first of several.
func TestPutRefused(t *testing.T) {
	far := []int{most + 1, -most - 1, math.MaxInt, math.MinInt}
	none := bounds(nil)
	for _, w := range []*zone.Zone{zone.New(), made(t, ranged(x, 0, 5)...), void(t)} {
		for _, c := range far {
			for _, v := range []int{0, 1, x, 59} {
				bad := bounds(map[int]int{v: c})
				long, short := append(bounds(map[int]int{v: c}), is(0)), bounds(map[int]int{v: c})[:59]
				for _, no := range []int{0, -1, 60, math.MinInt, math.MaxInt} {
					wantRefused(t, api.ErrVar)(w.Put(no, none, none))
					wantRefused(t, api.ErrVar)(w.Put(no, bad, none))
					wantRefused(t, api.ErrVar)(w.Put(no, long, short))
				}
				for _, l := range [][]api.Bound{nil, {}, none[:1], short, long, none[:59], append(bounds(nil), bad...)} {
					wantRefused(t, api.ErrArg)(w.Put(y, l, none))
					wantRefused(t, api.ErrArg)(w.Put(y, none, l))
					wantRefused(t, api.ErrArg)(w.Put(y, bad, l))
					wantRefused(t, api.ErrArg)(w.Put(y, l, bad))
					wantRefused(t, api.ErrArg)(w.Put(y, l, l))
				}
				wantRefused(t, api.ErrConst)(w.Put(y, bad, none))
				wantRefused(t, api.ErrConst)(w.Put(y, none, bad))
				wantRefused(t, api.ErrConst)(w.Put(y, bad, bad))
			}
		}
		put(t, w, 1, bounds(map[int]int{0: most, 59: -most}), bounds(map[int]int{58: most, 57: -most}))
	}
}

// TestWithin (P5.7): by the bounds, with the empty zone on either side.
func TestWithin(t *testing.T) {
	want := func(a, b *zone.Zone, is bool) {
		t.Helper()
		if a.Within(b) != is {
			t.Errorf("%s Within %s: %v; want %v", told(a), told(b), !is, is)
		}
	}
	five, six, empty := made(t, ranged(x, 0, 5)...), made(t, ranged(x, 0, 6)...), void(t)
	for _, w := range []*zone.Zone{zone.New(), five, six, open(t), zeros(t)} {
		want(empty, w, true)
		want(w, empty, false)
		want(w, w, true)
		want(w, zone.New(), true)
	}
	want(empty, empty, true)
	want(five, six, true)
	want(six, five, false)
	want(zone.New(), five, false)
	want(five, made(t, con(x, 0, 5)), true)
	want(made(t, con(x, 0, 5)), five, false)
	want(five, made(t, con(x, 0, 5), con(y, 0, most)), false) // any bound is less than none
	want(made(t, con(59, 58, -most)), made(t, con(59, 58, most)), true)
	want(made(t, con(59, 58, most)), made(t, con(59, 58, most-1)), false)
	want(open(t), made(t, con(x, y, 1), con(y, z, 1)), false) // by the bounds, not by what follows from them
	want(made(t, con(x, y, 1), con(y, z, 1)), open(t), true)
}

// TestJoinWiden (P5.8): pair by pair, with the empty zone on either side and on both.
func TestJoinWiden(t *testing.T) {
	five, empty := made(t, ranged(x, 0, 5)...), void(t)
	for _, w := range []*zone.Zone{zone.New(), five, open(t)} {
		for _, now := range []*zone.Zone{w.Join(empty), empty.Join(w), w.Widen(empty), empty.Widen(w), w.Join(w), w.Widen(w)} {
			wantZone(t, now, w.Cons()...)
		}
		wantZone(t, w.Join(zone.New()))
		wantZone(t, zone.New().Join(w))
		wantZone(t, w.Widen(zone.New()))
		wantZone(t, zone.New().Widen(w))
	}
	wantEmpty(t, empty.Join(void(t)))
	wantEmpty(t, empty.Widen(void(t)))
	a := made(t, con(x, 0, 5), con(0, x, 0), con(59, 58, 3), con(y, 0, 1))
	b := made(t, con(x, 0, 9), con(0, x, 0), con(59, 58, -3), con(0, y, 1))
	wantBound(t, a, y, x, is(1))
	wantBound(t, b, x, y, is(10))
	wantZone(t, a.Join(b), con(x, 0, 9), con(0, x, 0), con(59, 58, 3))
	wantZone(t, b.Join(a), con(x, 0, 9), con(0, x, 0), con(59, 58, 3))
	wantZone(t, a.Widen(b), con(0, x, 0), con(59, 58, 3))
	wantZone(t, b.Widen(a), con(x, 0, 9), con(0, x, 0))
	least, greatest := made(t, con(1, 59, -most)), made(t, con(1, 59, most))
	wantZone(t, least.Join(greatest), con(1, 59, most))
	wantZone(t, greatest.Widen(least), con(1, 59, most))
	wantZone(t, least.Widen(greatest))
}
