package zone_test

import (
	"math"
	"math/rand"
	"slices"
	"sync"
	"testing"

	"warrant/api"
	"warrant/zone"
)

// some are zones of all sorts.
func some(t *testing.T) []*zone.Zone {
	t.Helper()
	return []*zone.Zone{
		zone.New(), made(t, ranged(x, 0, 5)...), made(t, ranged(x, 2, 9)...), open(t), void(t),
		made(t, con(x, y, 1), con(y, z, 2), con(z, x, -3), con(59, 0, most)), closing(t, con(x, y, -most), con(y, 1, 7)),
	}
}

// TestSpareRoom (R3): lists that are handed in read as before behind each call, their spare room too, and are not kept.
func TestSpareRoom(t *testing.T) {
	cs := cons(con(x, y, 1), con(y, z, 2), con(x, x, 3), con(z, x, -3), con(x, y, -9), con(59, 1, most))
	bs := bounds(map[int]int{x: 1, z: 8, 59: 3, 1: -2})
	vs := []int{x, 59, 0, -3, y, 77, z}
	for n := range len(cs) + 1 {
		for _, w := range some(t) {
			l := slices.Clone(cs)
			a, _ := w.With(l[:n]...)
			b, _ := zone.Close(l[:n]...)
			if !slices.Equal(l, cs) {
				t.Fatal("a list of Cons was changed")
			}
			wantKept(t, []*zone.Zone{a, b}, func() { clear(l) })

			f := slices.Clone(vs)
			g := w.Forget(f[:n]...)
			if !slices.Equal(f, vs) {
				t.Fatal("a list of variables was changed")
			}
			wantKept(t, []*zone.Zone{g}, func() { clear(f) })

			up, down := slices.Concat(bs, bs), slices.Concat(bs, bs)
			p, _ := w.Put(y, up[:vars], down[:vars])
			_, e := w.Put(y, up[:n], down[:n])
			if !slices.Equal(up, slices.Concat(bs, bs)) || !slices.Equal(down, up) || e != api.ErrArg {
				t.Fatal("a list of bounds was changed")
			}
			wantKept(t, []*zone.Zone{p}, func() { clear(up); clear(down) })
		}
	}
}

// wantKept: the zones stay as they are, whatever is done to what was handed in, or to what they answered.
func wantKept(t *testing.T, zs []*zone.Zone, do func()) {
	t.Helper()
	var before []reckoned
	for _, z := range zs {
		before = append(before, seen(z))
	}
	do()
	for n, z := range zs {
		if seen(z) != before[n] {
			t.Fatal("a zone changed with a list")
		}
	}
}

// seen is all that a zone answers.
func seen(z *zone.Zone) reckoned {
	now := reckoned{empty: z.Empty()}
	for i := range vars {
		for j := range vars {
			now.m[i][j] = z.Bound(i, j)
		}
	}
	return now
}

// TestAnswered (R3): what Cons answers is new each time, its spare room too.
func TestAnswered(t *testing.T) {
	for _, w := range some(t) {
		want, first := w.Cons(), w.Cons()
		wantKept(t, []*zone.Zone{w}, func() {
			l := w.Cons()
			l = l[:cap(l)]
			for n := range l {
				l[n] = con(-77, -77, -77)
			}
		})
		if !slices.Equal(w.Cons(), want) || !slices.Equal(first, want) {
			t.Fatal("two answers share a list")
		}
	}
}

// TestUnchanged (R6): no call changes the zone that it is asked of, nor the other one, nor one that was answered ahead of it.
func TestUnchanged(t *testing.T) {
	d := dice{Rand: rand.New(rand.NewSource(6)), among: []int{0, 1, x, y, z, 59}, far: 9, wrong: 60}
	all := some(t)
	var before []reckoned
	for _, w := range all {
		before = append(before, seen(w))
	}
	for range 1500 {
		n, m := d.Intn(len(all)), d.Intn(len(all))
		now := d.call(t, pair{all[n], before[n]}, pair{all[m], before[m]})
		all[n].Within(all[m])
		all[n].Same(all[m])
		if seen(all[n]) != before[n] || seen(all[m]) != before[m] {
			t.Fatal("a call changed a zone")
		}
		if now.z != nil && len(all) < 60 {
			all, before = append(all, now.z), append(before, seen(now.z))
		}
	}
	for n, w := range all {
		if seen(w) != before[n] {
			t.Fatal("a later call changed a zone")
		}
	}
}

// TestSideBySide (R4, R6): one zone may be asked by many at a time, and answers each the same.
func TestSideBySide(t *testing.T) {
	zs := some(t)
	ask := func() []reckoned {
		var l []reckoned
		for _, a := range zs {
			for _, b := range zs {
				w, _ := a.With(b.Cons()...)
				c, _ := zone.Close(append(a.Cons(), b.Cons()...)...)
				m, _ := a.Join(b).Assign(x, y, 1)
				p, _ := b.Widen(a).Put(z, bounds(map[int]int{x: 1}), bounds(map[int]int{y: 2}))
				l = append(l, seen(w), seen(c), seen(m), seen(p), seen(a.Forget(x, 59)))
			}
		}
		return l
	}
	want := ask()
	wrong := make([]bool, 8)
	var all sync.WaitGroup
	for n := range wrong {
		all.Go(func() { wrong[n] = !slices.Equal(ask(), want) })
	}
	all.Wait()
	if slices.Contains(wrong, true) {
		t.Fatal("zones that are asked side by side answer otherwise")
	}
}

// TestAnything (R1): each call ends, and does not panic, at whatever it is handed; a refused one answers nothing else.
func TestAnything(t *testing.T) {
	r := rand.New(rand.NewSource(1))
	odd := []int{math.MinInt, math.MinInt + 1, -most - 1, -most, 1 - most, -61, -60, -59, -1, 0, 1, 2, 58, 59, 60, 61, 3599, 3600, most - 1, most, most + 1, 3 * most, math.MaxInt - 1, math.MaxInt}
	pick := func() int { return odd[r.Intn(len(odd))] }
	check := func(z *zone.Zone, e api.Errno) {
		t.Helper()
		if (z == nil) != (e != api.OK) {
			t.Fatalf("%s, %v", told(z), e)
		}
	}
	for _, w := range some(t) {
		for range 1000 {
			var cs []api.Con
			for range r.Intn(4) {
				cs = append(cs, con(pick(), pick(), pick()))
			}
			check(w.With(cs...))
			if r.Intn(10) == 0 {
				check(zone.Close(cs...))
			}
			check(w.Assign(pick(), pick(), pick()))
			up, down := make([]api.Bound, 58+r.Intn(4)), make([]api.Bound, 58+r.Intn(4))
			for range 3 {
				up[r.Intn(58)], down[r.Intn(58)] = is(pick()), api.Bound{C: pick()}
			}
			check(w.Put(pick(), up, down))
			check(w.Forget(pick(), pick()), api.OK)
			w.Bound(pick(), pick())
		}
		check(w.With(slices.Repeat(cons(con(x, y, 3), con(y, x, 2)), 5000)...))
		check(w.Forget(slices.Repeat([]int{x, y, 99}, 5000)...), api.OK)
		check(w.Put(x, make([]api.Bound, 100000), make([]api.Bound, 100000)))
	}
}
