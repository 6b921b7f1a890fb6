package shape_test

import (
	"testing"

	"warrant/api"
	"warrant/shape"
)

// pair is a shape, and what the chapter's own words came to by the same calls.
type pair struct {
	s    *shape.Shape
	want reckoned
}

// tag is any tag; about one of wrong is none that there may be.
func (d dice) tag(slot bool, wrong int) api.Tag {
	if d.one(wrong) {
		return []api.Tag{kind(-1), kind(7), row(8), maybe(-1), mask(256), {Kind: api.KindNum, Table: 1}, {Kind: api.KindRow, Mask: 1}}[d.Intn(7)]
	}
	k := []int{api.KindNone, api.KindNum, api.KindNum, api.KindNum, api.KindStack, api.KindCtx, api.KindRow, api.KindRow, api.KindMaybe}[d.Intn(9)]
	t := kind(k)
	if k == api.KindRow || k == api.KindMaybe {
		t.Table = d.Intn(2)
	}
	if k == api.KindNone && slot {
		t.Mask = []int{0, 1, 3, 15, 240, 255}[d.Intn(6)]
	}
	return t
}

// claim is any claim, of which something may be wrong.
func (d dice) claim() api.Claim {
	wrong := 0
	if d.Intn(3) == 0 {
		wrong = 4
	}
	var k reckoned
	for _, v := range d.among {
		if isReg(v) || isSlot(v) {
			k.tag[v] = d.tag(isSlot(v), 3*wrong)
		}
	}
	c := k.claim()
	c.Dead = d.Intn(20) == 0
	for range d.Intn(7) {
		i, j := d.among[d.Intn(len(d.among))], d.among[d.Intn(len(d.among))]
		if !d.one(wrong) && (!k.hasValue(i) || !k.hasValue(j) || i == j) {
			continue
		}
		n := max(0, d.Intn(8)-4)
		switch {
		case d.one(d.far):
			n = []int{most, -most, most / 2, -most / 2}[d.Intn(4)]
		case d.one(wrong):
			n = most + 1
		case d.one(wrong):
			i = 60
		}
		c.Cons = append(c.Cons, con(i, j, n))
	}
	return c
}

// call does one call that makes a shape, of the package and of the chapter's words.
func (d dice) call(t *testing.T, p, o pair) pair {
	t.Helper()
	var now pair
	var e, f api.Errno
	switch c := d.claim(); d.Intn(8) {
	case 0, 1:
		now.s, e = shape.From(c)
		now.want, f = reckonFrom(c)
	case 2:
		now.s, e = shape.Make(c.Regs, c.Stack, p.s.Zone)
		now.want, f = reckonMake(c.Regs, c.Stack, p.s.Zone)
	case 3:
		c := p.s.Claim()
		now.s, e = shape.Make(c.Regs, c.Stack, p.s.Join(o.s.Zone))
		now.want, f = reckonMake(c.Regs, c.Stack, p.s.Join(o.s.Zone))
	case 4:
		a := api.Program{Lo: d.Intn(5) - 1, Hi: d.Intn(9)}
		now.s, e = shape.Start(a)
		now.want, f = reckonStart(a)
	case 5, 6:
		now = pair{p.s.Both(o.s), p.want.both(&o.want, false)}
	case 7:
		now = pair{p.s.Wider(o.s), p.want.both(&o.want, true)}
	}
	if e != f || (e != api.OK) != (now.s == nil) {
		t.Fatalf("%s, %v; want the error %v", told(now.s), e, f)
	}
	return now
}

// suited is a state in which much is as a shape wants it.
func (d dice) suited(k *reckoned) (api.State, []int) {
	st, ghosts := d.state()
	for v := 2; v < 44 && d.Intn(8) > 0; v++ {
		a := api.Value{Kind: k.tag[v].Kind, Table: k.tag[v].Table, X: d.number()}
		if a.Kind == api.KindMaybe {
			a = api.Value{Kind: []int{api.KindNum, api.KindRow}[d.Intn(2)], Table: k.tag[v].Table}
		}
		switch {
		case isReg(v):
			st.Regs[v-2] = a
		case a.Kind == api.KindNum:
			st.Stack[v-12] = api.Slot{Bytes: [8]byte{byte(a.X)}, Mask: 255}
		case a.Kind == api.KindNone:
			st.Stack[v-12] = api.Slot{Mask: k.tag[v].Mask | d.Intn(4)<<8}
		default:
			st.Stack[v-12] = api.Slot{Ptr: a}
		}
	}
	return st, ghosts
}

// TestWhole (P9.1 to P9.7): all calls, one after the other, of shapes that come of one another, held against the chapter's words.
func TestWhole(t *testing.T) {
	refused, inside, holds := 0, 0, 0
	for n := range 16 {
		for _, d := range draws(n) {
			dead := pair{shape.Dead(), reckonDead()}
			known := []pair{dead, dead, dead, dead}
			for range 80 {
				p, o := known[d.Intn(len(known))], known[d.Intn(len(known))]
				if p.s.Inside(o.s) != p.want.inside(&o.want) {
					t.Fatalf("%s Inside %s: %v", told(p.s), told(o.s), p.s.Inside(o.s))
				}
				if p.s.Inside(o.s) && !p.want.dead {
					inside++
				}
				now := d.call(t, p, o)
				if now.s == nil {
					refused++
					continue
				}
				wantLike(t, now.s, now.want)
				for range 3 {
					st, ghosts := d.suited(&now.want)
					is := now.want.holds(st, ghosts)
					wantHolds(t, now.s, st, ghosts, is)
					if is {
						holds++
					}
				}
				if !now.want.dead || d.Intn(20) == 0 {
					known[d.Intn(len(known))] = now
				}
			}
		}
	}
	if refused < 100 || inside < 200 || holds < 200 {
		t.Errorf("%d were refused, %d inside, %d held", refused, inside, holds)
	}
}
