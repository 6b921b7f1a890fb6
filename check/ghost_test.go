package check_test

import (
	"testing"

	"warrant/api"
	"warrant/shape"
)

// circling is a program whose block 2 is a loop in which nothing is done; what its claim says is free, as no run comes there.
func circling(t *testing.T, head api.Claim, a, b int) pair {
	t.Helper()
	return paired(t, "r0 = 1\nif r0 == 2 goto loop\nexit\nloop: goto loop", loops(rank(2, a, b, 0, 1)), claim(nil), claim(tags{r0: num()}), head).
		with(func(c *pair) { c.p.Tables = []api.Table{{Rows: 1, Wide: 1}, {Rows: 1, Wide: 1}} })
}

// all is a claim with tags of all sorts, and bounds of what has a value.
func all() api.Claim {
	l := tags{r0: num(), r1: ctx(), r2: kind(api.KindStack), r3: kind(api.KindData), r4: row(1), r5: maybe(0), slot0: num(), slot0 + 1: ctx(), slot0 + 2: row(0), slot0 + 3: maybe(1), slot0 + 4: mask(255), slot0 + 5: kind(api.KindStack), slot0 + 6: kind(api.KindData), slot31: num()}
	bounds := ranged(ln, 3, 90)
	for v := r0; v <= slot31; v++ {
		if valued(l[v]) {
			bounds = append(bounds, con(v, 0, 100+v), con(0, v, v))
		}
	}
	return claim(l, bounds, atMost(r0, r1), cons(con(slot0, r4, -7), con(ln, r3, 1)))
}

func valued(t api.Tag) bool { return t.Kind != api.KindNone && t.Kind != api.KindMaybe }

// tagOf is what a claim says of a register or slot.
func tagOf(c api.Claim, v int) api.Tag {
	if v < slot0 {
		return c.Regs[v-r0]
	}
	return c.Stack[v-slot0]
}

// wantGhost: in a shape a ghost is a twin of a variable, bound by bound; or, where that has no value, it has no bounds.
func wantGhost(t *testing.T, s *shape.Shape, ghost, v int, valued bool) {
	t.Helper()
	for q := range 60 {
		up, down := s.Bound(ghost, q), s.Bound(q, ghost)
		switch {
		case q == ghost:
		case !valued && (up.Is || down.Is):
			t.Fatalf("the ghost %d of %d has a bound with %d: %s", ghost, v, q, told(s))
		case valued && (up != s.Bound(v, q) || down != s.Bound(q, v)):
			t.Fatalf("the ghost %d is no twin of %d: the bounds with %d are %v and %v: %s", ghost, v, q, up, down, told(s))
		}
	}
	if valued && s.Bound(v, ghost) != (api.Bound{Is: true}) {
		t.Fatalf("the ghost %d is not %d", ghost, v)
	}
}

// TestSet (P13.2): at the head the ghosts are what the loop names: any of 0, 1, a register and a slot, with a value and without one.
func TestSet(t *testing.T) {
	has := func(v int) bool { return v < r0 || valued(tagOf(all(), v)) }
	for a := range ghost0 {
		for _, b := range []int{0, ln, r1, r5, slot0, slot0 + 3, slot0 + 4} {
			if a == b {
				continue
			}
			for _, ab := range [][2]int{{a, b}, {b, a}} {
				v := circling(t, all(), ab[0], ab[1]).wantProven(t)
				for n, of := range ab {
					wantGhost(t, v.Before(3), ghost0+n, of, has(of))
					wantGhost(t, v.Post(2, 0), ghost0+n, of, has(of))
				}
			}
		}
	}
}

// TestNoTwins (P13.1): a loop whose A and B are one variable is refused, whatever that is; so is a ghost.
func TestNoTwins(t *testing.T) {
	for v := range 62 {
		circling(t, all(), v, v).want(t, cert(api.ErrLoop, 0))
		if v >= ghost0 {
			circling(t, all(), v, 0).want(t, cert(api.ErrLoop, 0))
			circling(t, all(), 0, v).want(t, cert(api.ErrLoop, 0))
		}
	}
}

// TestOwnGhosts (P13.1): the claim of a head does not tell its own ghosts; the claim of a block within may.
func TestOwnGhosts(t *testing.T) {
	c := circling(t, all(), r0, 0)
	c.wantProven(t)
	for n := range 2 {
		c.more(2, cons(con(ghost0+n, 0, 500))).want(t, cert(api.ErrGhost, 2))
		c.more(2, cons(con(r0, ghost0+n, 0))).want(t, cert(api.ErrGhost, 2))
		c.more(0, cons(con(ghost0+n, 0, 500))).want(t, cert(api.ErrGhost, 0))
	}
	n := nested(t)
	n.more(2, same(ghost0, r3)).more(3, same(ghost0, r3), same(ghost0+2, r4)).more(4, same(ghost0, r3)).wantProven(t)
}

// TestKept (P13.1): from block to block the ghosts of a loop are kept as long as the run is in it; of the loop within they are set anew each time that its head is come to, of the one around it they stay.
func TestKept(t *testing.T) {
	c := nested(t).more(2, same(ghost0, r3), same(ghost0+1, 0)).more(3, same(ghost0, r3), same(ghost0+1, 0), same(ghost0+2, r4)).more(4, same(ghost0, r3), same(ghost0+1, 0))
	v := c.wantProven(t)
	is := func(s *shape.Shape, i, j, d int) {
		t.Helper()
		if s.Bound(i, j) != (api.Bound{Is: true, C: d}) || s.Bound(j, i) != (api.Bound{Is: true, C: -d}) {
			t.Errorf("%d is not %d and %d: %s", i, j, d, told(s))
		}
	}
	none := func(s *shape.Shape, v int) {
		t.Helper()
		for q := range 60 {
			if q != v && (s.Bound(v, q).Is || s.Bound(q, v).Is) {
				t.Errorf("%d has a bound with %d: %s", v, q, told(s))
			}
		}
	}
	for n := range 4 {
		none(v.Before(0), ghost0+n)
		none(v.Post(0, 0), ghost0+n)
		none(v.Before(10), ghost0+n)
	}
	is(v.Before(3), ghost0, r3, 0)
	is(v.Before(3), ghost0+1, 0, 0)
	none(v.Before(3), ghost0+2)
	is(v.Before(4), ghost0, r3, 0)
	is(v.Before(4), ghost0+2, r4, 0)
	is(v.Before(4), ghost0+3, 0, 0)
	is(v.Before(6), ghost0+2, r4, 1)
	is(v.Post(3, 0), ghost0+2, r4, 1) // ahead of the forgetting
	is(v.Post(3, 0), ghost0, r3, 0)
	is(v.Post(2, 0), ghost0+2, r4, 0)
	none(v.Before(7), ghost0+2)
	is(v.Before(7), ghost0, r3, 0)
	is(v.Post(4, 0), ghost0, r3, 1)
	is(v.Post(1, 0), ghost0, r3, 0) // the edge that leaves the loop
	c.more(2, cons(con(ghost0, r3, -1), con(r3, ghost0, 1))).want(t, cert(api.ErrVoid, 2))
	c.more(3, cons(con(ghost0+2, 0, 8))).want(t, loose(2, 1, 4))
	c.more(4, cons(con(ghost0, 0, 8))).want(t, loose(2, 0, 4))
}

// TestNotKept (P13.1): what a block within says of a ghost does not hold on an edge where what it was set to has changed since.
func TestNotKept(t *testing.T) {
	at := func(lo int, cs ...[]api.Con) api.Claim {
		return claim(tags{r0: num(), r3: num()}, append(cs, ranged(r3, lo, 9))...)
	}
	c := paired(t, "r3 = 9\nr0 = 0\ntop: r4 = 1\nif r0 == 1 goto low\nr3 -= 1\nlow: r4 = 2\nif r3 s> 0 goto top\nexit", loops(rank(1, r3, 0, 0, 1)),
		claim(nil), at(0), at(0, same(r3, ghost0)), at(-1, cons(con(r3, ghost0, 0), con(ghost0, r3, 1))), claim(tags{r0: num()}))
	c.wantProven(t)
	c.more(3, cons(con(r3, ghost0, -1))).want(t, loose(1, 0, 3))
	c.more(3, cons(con(ghost0, r3, 0))).want(t, loose(2, 0, 4))
	c.more(2, cons(con(r4, 0, 1))).want(t, cert(api.ErrCons, 2))
	c.more(2, cons(con(ghost0, ghost0+1, 8))).want(t, loose(1, 1, 3))
	c.more(2, cons(con(ghost0, ghost0+1, 9))).wantProven(t)
}

// TestGhostsOfDead (P13.2): a head whose claim is Dead has no ghosts, and its loop is passed over.
func TestGhostsOfDead(t *testing.T) {
	v := circling(t, dead(), 0, 1).wantProven(t)
	if !isDead(v.Before(3)) || !isDead(v.Post(2, 0)) {
		t.Error("a head whose claim is Dead")
	}
}
