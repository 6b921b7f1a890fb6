package shape_test

import (
	"math"
	"math/rand"
	"slices"
	"sync"
	"testing"

	"warrant/api"
	"warrant/shape"
	"warrant/zone"
)

// seen is all that a shape answers of itself.
func seen(s *shape.Shape) reckoned {
	k := reckoned{dead: s.Dead()}
	for i := range vars {
		k.tag[i] = s.Tag(i)
		for j := range vars {
			k.m[i][j] = s.Bound(i, j)
		}
	}
	return k
}

// some are shapes of all sorts.
func some(t *testing.T) []*shape.Shape {
	t.Helper()
	start, e := shape.Start(api.Program{Lo: 2, Hi: 9})
	l := tags{x: num(), y: row(1), 12: mask(15), slot2: num(), 43: maybe(1)}
	open, f := shape.Make([10]api.Tag{3: num(), 4: num()}, [api.Slots]api.Tag{}, zoned(t, con(x, y, 1), con(y, 59, 1), con(x, 59, 0)).Widen(zoned(t, con(x, y, 1), con(y, 59, 1))))
	return []*shape.Shape{
		shape.Dead(), right(t, start, e), right(t, open, f), of(t, nil), of(t, l), of(t, l, ranged(x, 0, 5)...),
		of(t, l, con(x, y, 3), con(slot2, x, 0), con(59, 0, most)), of(t, tags{x: num(), y: maybe(1), slot2: mask(3)}, exactly(x, 0)...), of(t, tags{x: row(0)}, exactly(x, 0)...),
	}
}

// wantKept: the shape stays as it is, whatever is done.
func wantKept(t *testing.T, s *shape.Shape, do func()) {
	t.Helper()
	before := seen(s)
	do()
	if seen(s) != before {
		t.Error("a shape changed with what was handed in, or with what it answered")
	}
}

// TestHandedIn (R3): lists that are handed in read as before behind each call, their spare room too, and are not kept.
func TestHandedIn(t *testing.T) {
	cs := cons(con(y, x, 3), con(x, 0, 4), con(x, 0, 9), con(0, x, 0), con(60, 1, 5), con(y, 0, most+1))
	for n := range len(cs) + 1 {
		l := slices.Clone(cs)
		c := claim(tags{x: num(), y: num()}, l[:n]...)
		s, _ := shape.From(c)
		if !slices.Equal(l, cs) || !alike(c, claim(tags{x: num(), y: num()}, cs[:n]...)) {
			t.Fatal("From changed a claim")
		}
		if s != nil {
			wantKept(t, s, func() { clear(l) })
		}
	}
	ghosts := []int{9, 8, 7, 6, 5, 4, 3, 2, 1, 0, 1, 2, 3, 4, 5, 6, 7, 8}
	ctx, tables, sent := []byte{1, 2, 3}, [][]byte{{4}, {5}}, []int{6, 7}
	for _, s := range some(t) {
		g, b, w, l := slices.Clone(ghosts), slices.Clone(ctx), [][]byte{{4}, {5}}, slices.Clone(sent)
		s.Holds(api.State{Ctx: b[:2], Tables: w[:1], Sent: l[:1]}, g[:16])
		if !slices.Equal(g, ghosts) || !slices.Equal(b, ctx) || !slices.EqualFunc(w, tables, slices.Equal) || !slices.Equal(l, sent) {
			t.Fatal("Holds changed a list")
		}
	}
	p := api.Program{Hi: 3, Data: []byte{1}, Tables: []api.Table{{Rows: 1, Wide: 2}}, Code: []api.Ins{{Op: api.OpExit}}}
	s, e := shape.Start(p)
	wantKept(t, right(t, s, e), func() { p.Data[0], p.Tables[0].Rows, p.Code[0].Op, p.Hi = 9, 9, 9, 9 })
}

// TestZoneHandedIn (R3, R6): Make neither changes its zone nor keeps it.
func TestZoneHandedIn(t *testing.T) {
	for _, z := range []*zone.Zone{zone.New(), zoned(t, ranged(x, 0, 5)...), void(t)} {
		before := z.Forget()
		s, e := shape.Make([10]api.Tag{3: num()}, [api.Slots]api.Tag{}, z)
		if right(t, s, e).Zone == z || !z.Same(before) {
			t.Error("the zone that was handed in is changed, or kept")
		}
		wantKept(t, s, func() { *z = *zoned(t, con(1, 59, 3)) })
	}
}

// TestAnswered (R3, R4): what is answered is new each time, and shares nothing with what it was made of.
func TestAnswered(t *testing.T) {
	for _, s := range some(t) {
		want := s.Claim()
		wantKept(t, s, func() {
			c := s.Claim()
			c.Cons = c.Cons[:cap(c.Cons)]
			for n := range c.Cons {
				c.Cons[n] = con(-7, -7, -7)
			}
			clear(c.Regs[:])
			clear(c.Stack[:])
			l := s.Cons()
			clear(l[:cap(l)])
		})
		if !alike(s.Claim(), want) {
			t.Error("two answers share a list")
		}
		for _, o := range some(t) {
			both, wider := s.Both(o), s.Wider(o)
			for _, m := range []*shape.Shape{both, wider} {
				if m == s || m == o || m.Zone == s.Zone || m.Zone == o.Zone {
					t.Fatalf("what %s and %s come to is not new", told(s), told(o))
				}
				wantKept(t, s, func() { wantKept(t, o, func() { *m.Zone = *void(t) }) })
			}
			wantKept(t, both, func() { *wider = *shape.Dead() })
		}
	}
}

// askAll asks all of two shapes.
func askAll(s, o *shape.Shape) []reckoned {
	s.Inside(o)
	s.Holds(api.State{}, quiet())
	again, e := shape.From(s.Claim())
	l := []reckoned{seen(s), seen(s.Both(o)), seen(s.Wider(o))}
	if e == api.OK {
		l = append(l, seen(again))
	}
	z, _ := s.With(con(x, 0, 1), con(59, 1, 3))
	w, _ := z.Assign(x, y, 3)
	c := s.Claim()
	made, e := shape.Make(c.Regs, c.Stack, w.Forget(59))
	if e == api.OK {
		l = append(l, seen(made))
	}
	return l
}

// TestUnchanged (R6): no call changes a shape that it is asked of, nor the other one.
func TestUnchanged(t *testing.T) {
	l := some(t)
	for _, s := range l {
		for _, o := range l {
			wantKept(t, s, func() { wantKept(t, o, func() { askAll(s, o) }) })
		}
	}
}

// TestSideBySide (R4, R6): one shape may be asked by many at a time, and answers each the same.
func TestSideBySide(t *testing.T) {
	l := some(t)
	ask := func() []reckoned {
		var all []reckoned
		for _, s := range l {
			for _, o := range l {
				all = append(all, askAll(s, o)...)
			}
		}
		return all
	}
	want := ask()
	wrong := make([]bool, 4)
	var all sync.WaitGroup
	for n := range wrong {
		all.Go(func() { wrong[n] = !slices.Equal(ask(), want) })
	}
	all.Wait()
	if slices.Contains(wrong, true) {
		t.Error("shapes that are asked side by side answer otherwise")
	}
}

// odd draws numbers at and beyond all limits.
func odd(r *rand.Rand) int {
	l := []int{math.MinInt, math.MinInt + 1, -most - 1, -most, -256, -61, -1, 0, 1, 2, 5, 6, 7, 8, 11, 12, 43, 44, 59, 60, 255, 256, api.MaxCtx, api.MaxCtx + 1, most, most + 1, math.MaxInt - 1, math.MaxInt}
	return l[r.Intn(len(l))]
}

// anything is a claim and a state of which nothing need be right.
func anything(r *rand.Rand) (api.Claim, api.State) {
	var c api.Claim
	var st api.State
	c.Dead = r.Intn(9) == 0
	for range r.Intn(4) {
		c.Regs[r.Intn(10)] = api.Tag{Kind: odd(r), Table: odd(r), Mask: odd(r)}
		c.Stack[r.Intn(32)] = api.Tag{Kind: odd(r), Table: odd(r), Mask: odd(r)}
		c.Cons = append(c.Cons, con(odd(r), odd(r), odd(r)))
	}
	for n := range st.Regs {
		st.Regs[n] = api.Value{Kind: odd(r), Table: odd(r), Row: odd(r), X: odd(r)}
	}
	for n := range st.Stack {
		st.Stack[n] = api.Slot{Ptr: api.Value{Kind: odd(r) & 7, Table: odd(r), X: odd(r)}, Bytes: [8]byte{7: byte(odd(r))}, Mask: odd(r)}
	}
	st.At, st.Steps, st.Ctx = odd(r), odd(r), make([]byte, r.Intn(9))
	return c, st
}

// TestAnything (R1): each call ends, and does not panic, at whatever it is handed; a refused one answers nothing else, and the right error.
func TestAnything(t *testing.T) {
	r := rand.New(rand.NewSource(1))
	l := some(t)
	for range 3000 {
		c, st := anything(r)
		k, want := reckonFrom(c)
		s, e := shape.From(c)
		if e != want || (s == nil) != (e != api.OK) {
			t.Fatalf("From(%v): %s, %v; want %v", c, told(s), e, want)
		}
		if s != nil {
			wantLike(t, s, k)
			l[r.Intn(len(l))] = s
		}
		z, _ := zone.New().With(con(r.Intn(60), r.Intn(60), r.Intn(9)-1))
		k, want = reckonMake(c.Regs, c.Stack, z)
		s, e = shape.Make(c.Regs, c.Stack, z)
		if e != want || (s == nil) != (e != api.OK) || s != nil && seen(s) != k {
			t.Fatalf("Make(%v): %s, %v; want %v", c, told(s), e, want)
		}
		p := api.Program{Lo: odd(r), Hi: odd(r)}
		_, want = reckonStart(p)
		if s, e = shape.Start(p); e != want || (s == nil) != (e != api.OK) {
			t.Fatalf("Start(%v): %v; want %v", p, e, want)
		}
		a, b := l[r.Intn(len(l))], l[r.Intn(len(l))]
		a.Tag(odd(r))
		a.Span(odd(r))
		a.Inside(b)
		ghosts := slices.Repeat([]int{odd(r)}, 15+r.Intn(3))
		k = seen(a)
		wantHolds(t, a, st, ghosts, k.holds(st, ghosts))
		a.Both(b).Holds(st, ghosts)
		a.Wider(b).Holds(st, ghosts)
	}
	long := of(t, tags{x: num()}, slices.Repeat(cons(con(x, 0, 3), con(0, x, 3), con(59, x, 3)), 50000)...)
	wantSpan(t, long, x, api.Span{Lo: -3, Hi: 3})
	wantHolds(t, long, api.State{}, make([]int, 1<<20), false)
}
