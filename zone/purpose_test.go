package zone_test

import (
	"math/rand"
	"slices"
	"testing"

	"warrant/api"
	"warrant/zone"
)

// held is a zone and an assignment of it.
type held struct {
	z *zone.Zone
	a numbers
}

// wantOf: the assignment is one of the zone.
func wantOf(t *testing.T, z *zone.Zone, a numbers) {
	t.Helper()
	if z.Empty() {
		t.Fatal("an assignment is lost: the zone is empty")
	}
	for _, c := range z.Cons() {
		if !a.meets(c) {
			t.Fatalf("an assignment is lost: %d less %d is %d, not at most %d", c.I, c.J, a[c.I]-a[c.J], c.C)
		}
	}
}

// slack is how much more than needed a bound allows: often nothing.
func (d dice) slack() int {
	if d.one(d.far) {
		return d.Intn(most)
	}
	return max(0, d.Intn(40)-10)
}

// met are Cons that an assignment meets.
func (d dice) met(a numbers) []api.Con {
	var l []api.Con
	for range d.Intn(5) {
		i, j := d.variable(), d.variable()
		if c := a[i] - a[j] + d.slack(); -most <= c && c <= most {
			l = append(l, con(i, j, c))
		}
	}
	return l
}

// allowed are bounds for Put by which x may be the number n, from above or from below.
func (d dice) allowed(a numbers, x, n, sign int) []api.Bound {
	l := make([]api.Bound, vars)
	for range d.Intn(4) {
		v := d.variable()
		if c := sign*(n-a[v]) + d.slack(); v != x && -most <= c && c <= most {
			l[v] = is(c)
		}
	}
	return l
}

// onward does one call by which the assignment, or what the call makes of it, stays one of the zone.
func (d dice) onward(t *testing.T, p, o held) held {
	t.Helper()
	now := held{a: p.a}
	switch x, y, c := d.variable(), d.variable(), d.number(); d.Intn(8) {
	case 0, 1:
		l := d.met(p.a)
		now.z = with(t, p.z, l...)
		if !now.z.Within(p.z) {
			t.Fatalf("%s With %s is not Within it: %s", told(p.z), list(l), told(now.z))
		}
	case 2:
		l := d.met(p.a)
		now.z = closing(t, l...)
		for _, c := range l {
			if b := now.z.Bound(c.I, c.J); !b.Is || b.C > c.C {
				t.Fatalf("Close(%s) has %v for %v", list(l), b, c)
			}
		}
	case 3:
		now.z = p.z.Forget(x, y)
		for _, v := range []int{x, y} {
			if v != 0 {
				now.a[v] += c
			}
		}
	case 4:
		if x == 0 {
			return p
		}
		now.z = assign(t, p.z, x, y, c)
		now.a[x] = p.a[y] + c
	case 5:
		if x == 0 {
			return p
		}
		now.a[x] = c
		now.z = put(t, p.z, x, d.allowed(p.a, x, c, 1), d.allowed(p.a, x, c, -1))
	case 6:
		now.z = p.z.Join(o.z)
		wantOf(t, now.z, o.a)
	case 7:
		now.z = p.z.Widen(o.z)
		wantOf(t, now.z, o.a)
	}
	return now
}

// small tells whether all numbers are so small that no difference of two leaves an int.
func (a *numbers) small() bool {
	for _, n := range a {
		if n < -2*most || n > 2*most {
			return false
		}
	}
	return true
}

// TestNothingTrueIsLost (P5.9): an assignment goes along with its zone through all calls.
func TestNothingTrueIsLost(t *testing.T) {
	for n := range 20 {
		d := dice{Rand: rand.New(rand.NewSource(int64(n))), among: []int{0, 1, x, y, z, 59}, far: n % 4 * 3}
		known := []held{{z: zone.New()}}
		for range 600 {
			p, o := known[d.Intn(len(known))], known[d.Intn(len(known))]
			if p.z.Within(o.z) {
				wantOf(t, o.z, p.a)
			}
			if !p.z.Within(p.z) {
				t.Fatalf("%s is not Within itself", told(p.z))
			}
			now := d.onward(t, p, o)
			if !now.a.small() {
				continue
			}
			wantOf(t, now.z, now.a)
			if len(known) < 12 {
				known = append(known, now)
			} else {
				known[1+d.Intn(11)] = now
			}
		}
	}
}

// TestClosedAgain (P5.9): the Cons of a closed zone give it again, whatever their order; of an open one With adds what follows.
func TestClosedAgain(t *testing.T) {
	count := 0
	for n := range 12 {
		d := dice{Rand: rand.New(rand.NewSource(int64(n))), among: []int{0, x, y, 58, 59}, far: n % 3 * 2}
		p := pair{zone.New(), blank()}
		for range 60 {
			now := d.call(t, p, pair{made(t, con(x, 59, 4)), blank().withOne(con(x, 59, 4))})
			if now.z == nil || now.want.empty {
				continue
			}
			if p = now; !p.want.isClosed() {
				continue
			}
			count++
			l := p.z.Cons()
			d.Shuffle(len(l), func(i, j int) { l[i], l[j] = l[j], l[i] })
			for _, now := range []*zone.Zone{made(t, p.z.Cons()...), closing(t, p.z.Cons()...), made(t, l...), closing(t, l...)} {
				if !now.Same(p.z) {
					t.Fatalf("the Cons of %s give %s", told(p.z), told(now))
				}
			}
		}
	}
	if count < 200 {
		t.Errorf("only %d closed zones were seen", count)
	}
	w := open(t)
	wantZone(t, made(t, w.Cons()...), con(x, y, 1), con(y, z, 1), con(x, z, 2))
}

// near is a list of Cons within 2^40, of few variables, so that they often have to do with one another.
func near(d dice) []api.Con {
	var l []api.Con
	for range 1 + d.Intn(9) {
		c := d.Intn(12) - 4
		if d.one(d.far) {
			c = d.Intn(1<<41+1) - 1<<40
		}
		l = append(l, con(d.variable(), d.variable(), c))
	}
	return l
}

// wantJust: the zone's bounds are those that the Cons come to: reached, and not passed.
func wantJust(t *testing.T, z *zone.Zone, cs []api.Con, among []int) {
	t.Helper()
	_, some := solve(cs...)
	if z.Empty() == some {
		t.Fatalf("of %s: Empty() is %v", list(cs), z.Empty())
	}
	if z.Empty() {
		return
	}
	one := seen(z)
	if !one.isClosed() {
		t.Fatalf("of %s: %s is not closed", list(cs), told(z))
	}
	for _, i := range among {
		for _, j := range among {
			b := z.Bound(i, j)
			reach := -1 << 50
			if b.Is {
				reach = -b.C
			}
			if _, is := solve(append(slices.Clone(cs), con(j, i, reach))...); !is && i != j {
				t.Fatalf("of %s: %d less %d does not come to %d", list(cs), i, j, -reach)
			}
			if _, is := solve(append(slices.Clone(cs), con(j, i, reach-1))...); is && b.Is {
				t.Fatalf("of %s: %d less %d goes beyond %d", list(cs), i, j, b.C)
			}
		}
	}
}

// TestExact (P5.10): With of New and Close of the same Cons, in any order, are closed and the same, just as great as the Cons allow, and empty just where these allow nothing.
func TestExact(t *testing.T) {
	empty := 0
	for n := range 400 {
		d := dice{Rand: rand.New(rand.NewSource(int64(n))), among: []int{0, 1, x, 58, 59}, far: n % 5}
		cs := near(d)
		w := made(t, cs...)
		wantJust(t, w, cs, append(d.among, 30))
		if w.Empty() {
			empty++
		}
		for range 4 {
			d.Shuffle(len(cs), func(i, j int) { cs[i], cs[j] = cs[j], cs[i] })
			if a, b := made(t, cs...), closing(t, cs...); !a.Same(w) || !b.Same(w) {
				t.Fatalf("of %s: With %s, Close %s; want %s", list(cs), told(a), told(b), told(w))
			}
		}
	}
	if empty < 40 || empty > 360 {
		t.Errorf("%d of 400 were empty", empty)
	}
}

// TestLongest (P5.10): a way through all variables, at the limits of 2^40; one less makes it empty.
func TestLongest(t *testing.T) {
	for _, c := range []int{1 << 40, -1 << 40} {
		var way []api.Con
		for v := range vars - 1 {
			way = append(way, con(v, v+1, c))
		}
		for range 2 {
			slices.Reverse(way)
			for _, w := range []*zone.Zone{made(t, way...), closing(t, way...)} {
				wantBound(t, w, 0, 59, is(59*c))
				wantBound(t, w, 7, 20, is(13*c))
				wantBound(t, w, 59, 0, api.Bound{})
				wantBound(t, with(t, w, con(59, 0, -59*c)), 20, 7, is(-13*c))
				wantEmpty(t, with(t, w, con(59, 0, -59*c-1)))
			}
		}
	}
}

// TestNothingIsLost (P5.11): what the calls answer of such zones has no assignment too many.
func TestNothingIsLost(t *testing.T) {
	count := 0
	for n := range 800 {
		d := dice{Rand: rand.New(rand.NewSource(int64(n))), among: []int{0, 1, x, y, 59}, far: n % 4}
		w, o := made(t, near(d)...), made(t, near(d)...)
		if w.Empty() || o.Empty() {
			continue
		}
		count++
		a, b := 1+d.Intn(3), d.among[d.Intn(5)]
		exactWith(t, d, w)
		exactForget(t, d, w, a, b)
		if b != a {
			exactAssign(t, d, w, a, b)
		}
		exactShift(t, d, w, a)
		exactPut(t, d, w, a)
		exactJoin(t, d, w, o)
	}
	if count < 200 {
		t.Errorf("only %d pairs of zones were seen", count)
	}
}

func (d dice) near() int {
	if d.one(d.far) {
		return d.Intn(1<<41+1) - 1<<40
	}
	return d.Intn(30) - 10
}

func exactWith(t *testing.T, d dice, w *zone.Zone) {
	t.Helper()
	cs := near(d)
	now := with(t, w, cs...)
	wantJust(t, now, append(w.Cons(), cs...), d.among)
	if !now.Empty() {
		if a := drawn(d.Rand, now.Cons(), d.among); !a.meetsAll(cs) || !a.meetsAll(w.Cons()) {
			t.Fatalf("%s With %s has one too many: %v", told(w), list(cs), a)
		}
	}
}

// wantFrom: the assignment becomes one of the zone, if the variables are given other numbers.
func wantFrom(t *testing.T, w *zone.Zone, a numbers, vs ...int) {
	t.Helper()
	if _, is := solve(append(w.Cons(), but(a, vs...)...)...); !is {
		t.Fatalf("from no assignment of %s, but for %v: %v", told(w), vs, a)
	}
}

func exactForget(t *testing.T, d dice, w *zone.Zone, vs ...int) {
	t.Helper()
	wantFrom(t, w, drawn(d.Rand, w.Forget(vs...).Cons(), d.among), vs...)
}

func exactAssign(t *testing.T, d dice, w *zone.Zone, x, y int) {
	t.Helper()
	c := d.near()
	a := drawn(d.Rand, assign(t, w, x, y, c).Cons(), d.among)
	wantFrom(t, w, a, x)
	if a[x] != a[y]+c {
		t.Fatalf("%s Assign(%d, %d, %d): %v", told(w), x, y, c, a)
	}
}

func exactShift(t *testing.T, d dice, w *zone.Zone, x int) {
	t.Helper()
	c := d.near()
	a := drawn(d.Rand, assign(t, w, x, x, c).Cons(), d.among)
	if a[x] -= c; !a.meetsAll(w.Cons()) {
		t.Fatalf("%s Assign(%d, %d, %d): %v, ahead of it", told(w), x, x, c, a)
	}
}

func exactPut(t *testing.T, d dice, w *zone.Zone, x int) {
	t.Helper()
	up, down := make([]api.Bound, vars), make([]api.Bound, vars)
	var cs []api.Con
	for range d.Intn(4) {
		if v := d.variable(); v != x {
			up[v] = is(d.near())
			cs = append(cs, con(x, v, up[v].C))
		}
		if v := d.variable(); v != x && !down[v].Is {
			down[v] = is(d.near())
			cs = append(cs, con(v, x, down[v].C))
		}
	}
	now := put(t, w, x, up, down)
	var left []api.Con // the last one of each pair holds
	for _, c := range cs {
		if c.I != x || up[c.J].C == c.C {
			left = append(left, c)
		}
	}
	wantJust(t, now, append(w.Forget(x).Cons(), left...), d.among)
	if now.Empty() {
		return
	}
	a := drawn(d.Rand, now.Cons(), d.among)
	wantFrom(t, w, a, x)
	if !a.meetsAll(left) {
		t.Fatalf("%s Put(%d, %s): %v", told(w), x, list(left), a)
	}
}

func exactJoin(t *testing.T, d dice, w, o *zone.Zone) {
	t.Helper()
	now := w.Join(o)
	for _, i := range d.among {
		for _, j := range d.among {
			reach := -1 << 50
			if b := now.Bound(i, j); b.Is {
				reach = -b.C
			}
			_, one := solve(append(w.Cons(), con(j, i, reach))...)
			_, other := solve(append(o.Cons(), con(j, i, reach))...)
			if i != j && !one && !other {
				t.Fatalf("%s Join %s: %d less %d does not come to %d", told(w), told(o), i, j, -reach)
			}
		}
	}
}
