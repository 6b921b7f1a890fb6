package deed_test

import (
	"math"
	"slices"
	"testing"

	"warrant/api"
	"warrant/deed"
)

// plainOnly: Encode takes a number in a place just from least to most.
func plainOnly(t *testing.T, least, most int, e api.Errno, with func(n int) api.Deed) {
	t.Helper()
	for _, n := range []int{least, most} {
		d := with(n)
		b, f := deed.Encode(d)
		if f != api.OK {
			t.Errorf("%s: %v", told(d), f)
		}
		wantDeed(t, b, d)
	}
	for _, n := range []int{math.MinInt, least - 1, most + 1, math.MaxInt} {
		wantUnwritten(t, with(n), e)
	}
}

// TestPlainLoops (P11.1): each number of a loop, at its ends and one past them, in any loop.
func TestPlainLoops(t *testing.T) {
	places := []struct {
		least, most int
		in          func(l *api.Loop) *int
	}{
		{0, 511, func(l *api.Loop) *int { return &l.Head }},
		{0, 59, func(l *api.Loop) *int { return &l.A }},
		{0, 59, func(l *api.Loop) *int { return &l.B }},
		{-most, most, func(l *api.Loop) *int { return &l.K }},
		{0, most, func(l *api.Loop) *int { return &l.D }},
	}
	for _, p := range places {
		for at := range 3 {
			plainOnly(t, p.least, p.most, api.ErrLoop, func(n int) api.Deed {
				l := make([]api.Loop, 3)
				*p.in(&l[at]) = n
				return loops(l...)
			})
		}
	}
	// What chapter 11 asks against a program alone is no fault of a plain deed: loops out of order, A the same as B, no fall.
	wantBoth(t, loops(rank(2, 5, 5, 0, 0), rank(2, 59, 59, 0, 0), rank(1, 0, 0, 0, 0)), mark, "03", "02 05 05 00 00", "02 3b 3b 00 00", "01 00 00 00 00", "00")
}

// TestPlainCounts (P11.1): so many loops and claims, and one more, whatever is in them.
func TestPlainCounts(t *testing.T) {
	for n := range 20 {
		d := loops(make([]api.Loop, n)...)
		if n > 8 {
			wantUnwritten(t, d, api.ErrCount)
		} else if b, e := deed.Encode(d); e != api.OK || len(b) != 6+5*n {
			t.Errorf("%d loops: % x, %v", n, b, e)
		}
	}
	for _, n := range []int{511, 512, 513, 1024, 5000} {
		d := claims(slices.Repeat([]api.Claim{dead()}, n)...)
		if n > 512 {
			wantUnwritten(t, d, api.ErrCount)
		} else if b, e := deed.Encode(d); e != api.OK || len(b) != 7+n {
			t.Errorf("%d claims: %d bytes, %v", n, len(b), e)
		}
	}
	wantUnwritten(t, loops(slices.Repeat([]api.Loop{rank(-1, 0, 0, 0, 0)}, 9)...), api.ErrCount)
	wantUnwritten(t, claims(slices.Repeat([]api.Claim{{Dead: true, Regs: regs(num())}}, 513)...), api.ErrCount)
}

// goodTag: what the chapter says of tags.
func goodTag(t api.Tag, slot bool) bool {
	switch {
	case t.Kind < 0 || t.Kind > 6:
		return false
	case t.Kind >= 5:
		return t.Table >= 0 && t.Table <= 7 && t.Mask == 0
	case t.Kind == 0 && slot:
		return t.Table == 0 && t.Mask >= 0 && t.Mask <= 255
	}
	return t == kind(t.Kind)
}

// TestPlainTags (P11.1): of each kind tables and masks, at their ends and one past them, in registers and in slots.
func TestPlainTags(t *testing.T) {
	odd := []int{math.MinInt, -256, -1, 0, 1, 7, 8, 255, 256, 1 << 32, math.MaxInt}
	for _, k := range []int{math.MinInt, -1, 0, 1, 2, 3, 4, 5, 6, 7, 256, math.MaxInt} {
		for _, table := range odd {
			for _, bits := range odd {
				tag := api.Tag{Kind: k, Table: table, Mask: bits}
				for _, n := range []int{0, 4, 9} {
					var c api.Claim
					c.Regs[n] = tag
					wantTagged(t, c, goodTag(tag, false))
				}
				for _, n := range []int{0, 17, 31} {
					wantTagged(t, slots(tags{n: tag}), goodTag(tag, true))
				}
			}
		}
	}
}

func wantTagged(t *testing.T, c api.Claim, good bool) {
	t.Helper()
	d := claims(claim(), c)
	if !good {
		wantUnwritten(t, d, api.ErrKind)
		return
	}
	b, e := deed.Encode(d)
	if e != api.OK {
		t.Fatalf("%s: %v", told(d), e)
	}
	wantDeed(t, b, d)
}

// TestPlainDead (P11.1): a dead claim has nothing in it, be it plain or not.
func TestPlainDead(t *testing.T) {
	for n := range 10 {
		c := dead()
		c.Regs[n] = num()
		wantUnwritten(t, claims(claim(), c), api.ErrDead)
	}
	for n := range 32 {
		for _, tag := range []api.Tag{num(), mask(1), mask(256), {Table: 1}, kind(7)} {
			c := slots(tags{n: tag})
			c.Dead = true
			wantUnwritten(t, claims(c), api.ErrDead)
		}
	}
	for _, c := range []api.Con{con(0, 1, 0), con(0, 0, 0), con(60, 0, 0), con(0, 1, most+1)} {
		wantUnwritten(t, claims(api.Claim{Dead: true, Cons: []api.Con{c}}), api.ErrDead)
	}
	wantBoth(t, claims(dead(), claim(), dead()), mark, "00 03", "00", bare, none, "00")
	wantBoth(t, claims(api.Claim{Dead: true, Cons: []api.Con{}}), mark, "00 01 00")
}

// TestPlainCons (P11.1): a constraint's I, J and C, at their ends and one past them; I and J are not the same.
func TestPlainCons(t *testing.T) {
	plainOnly(t, 0, 59, api.ErrCons, func(n int) api.Deed { return claims(claim(con(n, 30, 1))) })
	plainOnly(t, 0, 59, api.ErrCons, func(n int) api.Deed { return claims(claim(con(30, n, 1))) })
	plainOnly(t, -most, most, api.ErrCons, func(n int) api.Deed { return claims(claim(con(0, 59, n))) })
	for v := range 60 {
		wantUnwritten(t, claims(claim(con(v, v, 0))), api.ErrCons)
		for w := range 60 {
			if v == w {
				continue
			}
			d := claims(claim(con(v, w, 0)))
			if _, e := deed.Encode(d); e != api.OK { // of kinds it is not asked: all of them are zero
				t.Errorf("%s: %v", told(d), e)
			}
		}
	}
}

// TestPlainOrder (P11.1): constraints rise, by I and then by J.
func TestPlainOrder(t *testing.T) {
	ahead := con(20, 30, 5)
	for _, i := range []int{0, 19, 20, 21, 59} {
		for _, j := range []int{1, 15, 29, 30, 31, 58} {
			d := claims(claim(ahead, con(i, j, 5)))
			if i > 20 || i == 20 && j > 30 {
				if _, e := deed.Encode(d); e != api.OK {
					t.Errorf("%s: %v", told(d), e)
				}
			} else {
				wantUnwritten(t, d, api.ErrOrder)
			}
		}
	}
	wantUnwritten(t, claims(claim(con(20, 30, 5), con(20, 30, 4))), api.ErrOrder)
	wantUnwritten(t, claims(claim(con(1, 2, 0), con(3, 2, 0), con(2, 3, 0), con(4, 0, 0))), api.ErrOrder)
	wantUnwritten(t, claims(claim(con(1, 2, 0), con(3, 2, 0), con(3, 1, 0))), api.ErrOrder)
	// Each claim has an order of its own.
	wantBoth(t, claims(claim(con(59, 58, 0)), claim(con(0, 1, 0), con(0, 2, 0), con(1, 0, 0))),
		mark, "00 02", bare, "00 01 3b 3a 00", bare, "00 03 00 01 00 00 02 00 01 00 00")
	d := claims(claim(all(0)...))
	if b, e := deed.Encode(d); e != api.OK || len(b) != 6+11+1+2+3*3540 {
		t.Errorf("all constraints: %d bytes, %v", len(b), e)
	}
	wantUnwritten(t, claims(claim(append(all(0), con(59, 58, 0))...)), api.ErrOrder)
}

// all are the constraints of each two variables.
func all(c int) []api.Con {
	var l []api.Con
	for i := range 60 {
		for j := range 60 {
			if i != j {
				l = append(l, con(i, j, c))
			}
		}
	}
	return l
}

// flaw is a fault of a deed: what it does to one, its error, and where it stands in the order of the chapter.
type flaw struct {
	name  string
	order []int
	do    func(d *api.Deed)
	e     api.Errno
}

// sound is a plain deed in which flaws have room.
func sound() api.Deed {
	d := loops(make([]api.Loop, 3)...)
	for range 3 {
		d.Claims = append(d.Claims, claim(con(9, 1, 0), con(10, 1, 0), con(11, 1, 0), con(12, 1, 0)))
	}
	return d
}

func flaws() []flaw {
	l := []flaw{
		{"loops", []int{0}, func(d *api.Deed) { d.Loops = append(d.Loops, make([]api.Loop, 6)...) }, api.ErrCount},
		{"claims", []int{0}, func(d *api.Deed) { d.Claims = append(d.Claims, make([]api.Claim, 510)...) }, api.ErrCount},
	}
	for n := range 3 {
		l = append(l,
			flaw{"head", []int{1, n}, func(d *api.Deed) { d.Loops[n].Head = 512 }, api.ErrLoop},
			flaw{"A", []int{1, n}, func(d *api.Deed) { d.Loops[n].A = 60 }, api.ErrLoop},
			flaw{"B", []int{1, n}, func(d *api.Deed) { d.Loops[n].B = -1 }, api.ErrLoop},
			flaw{"K", []int{1, n}, func(d *api.Deed) { d.Loops[n].K = most + 1 }, api.ErrLoop},
			flaw{"D", []int{1, n}, func(d *api.Deed) { d.Loops[n].D = -1 }, api.ErrLoop},
			flaw{"dead", []int{2, n, 0}, func(d *api.Deed) { d.Claims[n].Dead = true }, api.ErrDead},
			flaw{"register's kind", []int{2, n, 1}, func(d *api.Deed) { d.Claims[n].Regs[8].Kind = 7 }, api.ErrKind},
			flaw{"register's table", []int{2, n, 1}, func(d *api.Deed) { d.Claims[n].Regs[7].Table = 1 }, api.ErrKind},
			flaw{"register's mask", []int{2, n, 1}, func(d *api.Deed) { d.Claims[n].Regs[6].Mask = 1 }, api.ErrKind},
			flaw{"slot's kind", []int{2, n, 1}, func(d *api.Deed) { d.Claims[n].Stack[5].Kind = -1 }, api.ErrKind},
			flaw{"slot's table", []int{2, n, 1}, func(d *api.Deed) { d.Claims[n].Stack[4] = row(8) }, api.ErrKind},
			flaw{"slot's mask", []int{2, n, 1}, func(d *api.Deed) { d.Claims[n].Stack[3] = mask(256) }, api.ErrKind},
		)
		for k := 1; k < 4; k++ {
			l = append(l,
				flaw{"I", []int{2, n, 2, k, 0}, func(d *api.Deed) { d.Claims[n].Cons[k].I = 60 }, api.ErrCons},
				flaw{"J", []int{2, n, 2, k, 0}, func(d *api.Deed) { d.Claims[n].Cons[k].J = -1 }, api.ErrCons},
				flaw{"J as I", []int{2, n, 2, k, 0}, func(d *api.Deed) { d.Claims[n].Cons[k].J = d.Claims[n].Cons[k].I }, api.ErrCons},
				flaw{"C", []int{2, n, 2, k, 0}, func(d *api.Deed) { d.Claims[n].Cons[k].C = -most - 1 }, api.ErrCons},
				flaw{"order", []int{2, n, 2, k, 1}, func(d *api.Deed) { d.Claims[n].Cons[k].I = 8 }, api.ErrOrder},
			)
		}
	}
	return l
}

// TestFirstFlaw (P11.1, P11.4): each flaw by itself has its error, and of each two of them the first one, in one loop, in one claim, and in two of them.
func TestFirstFlaw(t *testing.T) {
	if _, e := deed.Encode(sound()); e != api.OK {
		t.Fatalf("%s: %v", told(sound()), e)
	}
	for _, f := range flaws() {
		d := sound()
		f.do(&d)
		wantUnwritten(t, d, f.e)
		for _, g := range flaws() {
			first := f
			if slices.Compare(g.order, f.order) < 0 {
				first = g
			}
			if f.name == "order" && g.name == "I" || f.name == "I" && g.name == "order" || f.name == "J as I" && g.name == "order" {
				continue // one undoes the other
			}
			d := sound()
			f.do(&d)
			g.do(&d)
			if b, e := deed.Encode(d); e != first.e || len(b) != 0 {
				t.Errorf("%s %v and %s %v: %v; want %v", f.name, f.order, g.name, g.order, e, first.e)
			}
		}
	}
}

// heavy is a deed of just so many bytes, if it is plain: claims with all constraints, one with some, and dead ones of one byte each.
func heavy(t *testing.T, n int) api.Deed {
	t.Helper()
	d := claims(slices.Repeat([]api.Claim{claim(all(most)...)}, (n-100)/28334)...)
	left := n - 7 - 28334*len(d.Claims)
	some := (left - 13) / 8
	d.Claims = append(d.Claims, claim(all(most)[:some]...))
	d.Claims = append(d.Claims, slices.Repeat([]api.Claim{dead()}, left-13-8*some)...)
	if some > 127 || len(d.Claims) < 128 || len(d.Claims) > 512 {
		t.Fatalf("%d claims", len(d.Claims))
	}
	return d
}

// TestEncodeLong (P11.4): so many bytes, and one more; what is not plain is told first.
func TestEncodeLong(t *testing.T) {
	d := heavy(t, api.MaxDeed)
	b, e := deed.Encode(d)
	if e != api.OK || len(b) != api.MaxDeed {
		t.Fatalf("%d bytes, %v", len(b), e)
	}
	wantDeed(t, b, d)
	wantUnwritten(t, heavy(t, api.MaxDeed+1), api.ErrLong)
	full := claims(slices.Repeat([]api.Claim{claim(all(-most)...)}, 512)...)
	wantUnwritten(t, full, api.ErrLong)
	last := slices.Clone(full.Claims[511].Cons)
	last[3539].C--
	full.Claims[511].Cons = last
	wantUnwritten(t, full, api.ErrCons)
}
