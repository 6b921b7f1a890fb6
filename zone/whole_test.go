package zone_test

import (
	"math"
	"math/rand"
	"testing"

	"warrant/api"
	"warrant/zone"
)

// pair is a zone, and what the chapter's own words came to by the same calls.
type pair struct {
	z    *zone.Zone
	want reckoned
}

// dice draws what is handed in; the fewer the variables the more their bounds have to do with one another.
type dice struct {
	*rand.Rand
	among []int
	far   int // of so many numbers about one is near Most
	wrong int // of so many numbers about one is none that is taken
}

func (d dice) one(of int) bool { return of > 0 && d.Intn(of) == 0 }

func (d dice) variable() int {
	if d.one(d.wrong) {
		return []int{-1, 60, 61, math.MinInt, math.MaxInt}[d.Intn(5)]
	}
	return d.among[d.Intn(len(d.among))]
}

func (d dice) number() int {
	if d.one(d.wrong) {
		return []int{most + 1, -most - 1, math.MinInt, math.MaxInt}[d.Intn(4)]
	}
	if d.one(d.far) {
		return []int{most, -most, most / 2, -most / 2, most - 1, 1 - most, most - d.Intn(9), d.Intn(9) - most}[d.Intn(8)]
	}
	return d.Intn(32) - 8
}

func (d dice) cons() []api.Con {
	var l []api.Con
	for range d.Intn(5) {
		l = append(l, con(d.variable(), d.variable(), d.number()))
	}
	return l
}

func (d dice) bounds() []api.Bound {
	l := make([]api.Bound, vars)
	if d.one(d.wrong) {
		l = append(l, api.Bound{})[d.Intn(2)*2:]
	}
	for range d.Intn(4) {
		if v := d.variable(); 0 <= v && v < len(l) {
			l[v] = api.Bound{Is: d.Intn(5) != 0, C: d.number()}
		}
	}
	return l
}

// call does one call, of the package and of the chapter's words.
func (d dice) call(t *testing.T, p, o pair) pair {
	t.Helper()
	var now pair
	var e, f api.Errno
	switch x, y, c := d.variable(), d.variable(), d.number(); d.Intn(8) {
	case 0, 1:
		l := d.cons()
		now.z, e = p.z.With(l...)
		now.want, f = p.want.with(l...)
	case 2:
		l := d.cons()
		now.z, e = zone.Close(l...)
		now.want, f = closed(l...)
	case 3:
		now = pair{p.z.Forget(x, y), p.want.forget(x, y)}
	case 4:
		now.z, e = p.z.Assign(x, y, c)
		now.want, f = p.want.assign(x, y, c)
	case 5:
		up, down := d.bounds(), d.bounds()
		now.z, e = p.z.Put(x, up, down)
		now.want, f = p.want.put(x, up, down)
	case 6:
		now = pair{p.z.Join(o.z), p.want.join(o.want)}
	case 7:
		now = pair{p.z.Widen(o.z), p.want.widen(o.want)}
	}
	if e != f || (e != api.OK) != (now.z == nil) {
		t.Fatalf("%s, %v; want the error %v", told(now.z), e, f)
	}
	return now
}

// walk goes on from zones to zones by all calls, and holds what is answered against the chapter's words.
func walk(t *testing.T, d dice, steps int) {
	t.Helper()
	known := []pair{{zone.New(), blank()}}
	for range steps {
		p, o := known[d.Intn(len(known))], known[d.Intn(len(known))]
		if p.z.Within(o.z) != p.want.within(o.want) || p.z.Same(o.z) != p.want.same(o.want) {
			t.Fatalf("of %s and %s: Within %v, Same %v", told(p.z), told(o.z), p.z.Within(o.z), p.z.Same(o.z))
		}
		now := d.call(t, p, o)
		if now.z == nil {
			continue
		}
		wantLike(t, now.z, now.want)
		if now.z.Empty() && d.Intn(20) != 0 {
			continue
		}
		if len(known) < 12 {
			known = append(known, now)
		} else {
			known[1+d.Intn(11)] = now
		}
	}
}

// TestWhole (P5.1 to P5.8, R1, R2): all calls, one after the other, of zones that are closed and not, with numbers near and far, right and wrong.
func TestWhole(t *testing.T) {
	few, all := []int{0, 1, 2, 58, 59}, make([]int, vars)
	for v := range all {
		all[v] = v
	}
	for n := range 12 {
		r := rand.New(rand.NewSource(int64(n)))
		walk(t, dice{Rand: r, among: few}, 400)
		walk(t, dice{Rand: r, among: few[:3], far: 3}, 400)
		walk(t, dice{Rand: r, among: few, far: 5, wrong: 25}, 400)
		walk(t, dice{Rand: r, among: all, far: 40}, 400)
	}
}

// TestDense (P5.2, P5.3): long lists over all variables.
func TestDense(t *testing.T) {
	for n := range 8 {
		r := rand.New(rand.NewSource(int64(n)))
		var l []api.Con
		for range 50 * (n + 1) {
			c := r.Intn(100) - r.Intn(2)
			if n%2 == 1 {
				c = r.Intn(most) - r.Intn(2)*(most/64)
			}
			l = append(l, con(r.Intn(vars), r.Intn(vars), c))
		}
		want, _ := blank().with(l...)
		wantLike(t, made(t, l...), want)
		want, _ = closed(l...)
		wantLike(t, closing(t, l...), want)
	}
}
