package shape_test

import (
	"math"
	"slices"
	"testing"

	"warrant/api"
	"warrant/shape"
	"warrant/zone"
)

// The variables of the chapter's examples, r3 and r4, and the slot 2's.
const (
	x     = 5
	y     = 6
	slot2 = 14
)

func con(i, j, c int) api.Con { return api.Con{I: i, J: j, C: c} }

func cons(cs ...api.Con) []api.Con { return cs }

// ranged says that a variable is from lo to hi.
func ranged(v, lo, hi int) []api.Con { return cons(con(v, 0, hi), con(0, v, -lo)) }

// exactly says that a variable is a number.
func exactly(v, n int) []api.Con { return ranged(v, n, n) }

func kind(k int) api.Tag { return api.Tag{Kind: k} }

func num() api.Tag { return kind(api.KindNum) }

func row(table int) api.Tag { return api.Tag{Kind: api.KindRow, Table: table} }

func maybe(table int) api.Tag { return api.Tag{Kind: api.KindMaybe, Table: table} }

func mask(bits int) api.Tag { return api.Tag{Mask: bits} }

// tags are of registers and slots, by their variables; of all others zero.
type tags map[int]api.Tag

func (l tags) lists() (regs [10]api.Tag, stack [api.Slots]api.Tag) {
	for v, t := range l {
		if isReg(v) {
			regs[v-2] = t
		} else {
			stack[v-12] = t
		}
	}
	return regs, stack
}

func claim(l tags, cs ...api.Con) api.Claim {
	regs, stack := l.lists()
	return api.Claim{Regs: regs, Stack: stack, Cons: cs}
}

// right is a shape that was not refused.
func right(t *testing.T, s *shape.Shape, e api.Errno) *shape.Shape {
	t.Helper()
	if s == nil || e != api.OK {
		t.Fatalf("refused: %s, %v", told(s), e)
	}
	return s
}

// of is the shape of a claim with these tags and Cons.
func of(t *testing.T, l tags, cs ...api.Con) *shape.Shape {
	t.Helper()
	s, e := shape.From(claim(l, cs...))
	return right(t, s, e)
}

// zoned is a zone of these Cons.
func zoned(t *testing.T, cs ...api.Con) *zone.Zone {
	t.Helper()
	z, e := zone.New().With(cs...)
	if e != api.OK {
		t.Fatal(e)
	}
	return z
}

func void(t *testing.T) *zone.Zone {
	t.Helper()
	return zoned(t, con(0, 0, -1))
}

// wantRefused: a call answers nothing but its error.
func wantRefused(t *testing.T, want api.Errno) func(*shape.Shape, api.Errno) {
	return func(s *shape.Shape, e api.Errno) {
		t.Helper()
		if s != nil || e != want {
			t.Errorf("got %s, %v; want nil, %v", told(s), e, want)
		}
	}
}

func wantSpan(t *testing.T, s *shape.Shape, v int, want api.Span) {
	t.Helper()
	if got := s.Span(v); got != want {
		t.Errorf("of %s: Span(%d) = %v; want %v", told(s), v, got, want)
	}
}

func wantTag(t *testing.T, s *shape.Shape, v int, want api.Tag) {
	t.Helper()
	if got := s.Tag(v); got != want {
		t.Errorf("of %s: Tag(%d) = %v; want %v", told(s), v, got, want)
	}
}

func wantInside(t *testing.T, s, o *shape.Shape, want bool) {
	t.Helper()
	if got := s.Inside(o); got != want {
		t.Errorf("%s Inside %s: %v; want %v", told(s), told(o), got, want)
	}
}

// wantDead: the shape is dead in all that it answers.
func wantDead(t *testing.T, s *shape.Shape) {
	t.Helper()
	wantLike(t, s, reckonDead())
}

// wantShape: the shape has just these tags and these Cons.
func wantShape(t *testing.T, s *shape.Shape, l tags, cs ...api.Con) {
	t.Helper()
	cs = slices.Clone(cs)
	slices.SortFunc(cs, func(a, b api.Con) int { return vars*(a.I-b.I) + a.J - b.J })
	if want := claim(l, cs...); s.Dead() || !alike(s.Claim(), want) {
		t.Errorf("got %s; want %s", told(s), listed(want))
	}
}

// alike tells whether two claims say the same, Con by Con.
func alike(a, b api.Claim) bool {
	return a.Dead == b.Dead && a.Regs == b.Regs && a.Stack == b.Stack && slices.Equal(a.Cons, b.Cons)
}

// wantLike: the shape is what the chapter's own words come to, in all that may be asked of it alone.
func wantLike(t *testing.T, s *shape.Shape, want reckoned) {
	t.Helper()
	if s == nil || s.Dead() != want.dead || s.Empty() != want.dead {
		t.Fatalf("got %s; want %s", told(s), listed(want.claim()))
	}
	for i := -1; i <= vars; i++ {
		if s.Tag(i) != want.tagOf(i) || s.Span(i) != want.span(i) {
			t.Fatalf("Tag(%d) = %v, Span(%d) = %v; want %v, %v", i, s.Tag(i), i, s.Span(i), want.tagOf(i), want.span(i))
		}
		for j := -1; j <= vars; j++ {
			if b := s.Bound(i, j); b != want.bound(i, j) {
				t.Fatalf("Bound(%d, %d) = %v; want %v, of %s", i, j, b, want.bound(i, j), listed(want.claim()))
			}
		}
	}
	if c := s.Claim(); !alike(c, want.claim()) {
		t.Fatalf("Claim() = %s; want %s", listed(c), listed(want.claim()))
	}
}

// TestExamples: every row of the chapter's section Examples.
func TestExamples(t *testing.T) {
	s := of(t, tags{x: num()}, con(5, 0, 9), con(0, 5, 0))
	wantSpan(t, s, 5, api.Span{Hi: 9})
	wantTag(t, s, 5, api.Tag{Kind: api.KindNum})
	wantTag(t, s, 6, api.Tag{})

	wantRefused(t, api.ErrCons)(shape.From(claim(nil, con(5, 0, 9))))
	wantRefused(t, api.ErrKind)(shape.From(claim(tags{x: kind(7)})))
	wantRefused(t, api.ErrKind)(shape.From(claim(tags{x: {Kind: api.KindNum, Mask: 1}})))
	wantRefused(t, api.ErrVoid)(shape.From(claim(tags{x: num()}, con(5, 0, 1), con(0, 5, -2))))
	c := claim(tags{x: num()})
	c.Dead = true
	wantRefused(t, api.ErrDead)(shape.From(c))

	s, e := shape.Start(api.Program{Lo: 4, Hi: 100})
	s = right(t, s, e)
	wantSpan(t, s, 1, api.Span{Lo: 4, Hi: 100})
	wantSpan(t, s, 3, api.Span{})
	if b := s.Bound(4, 1); b != is(0) {
		t.Errorf("Bound(4, 1) of the start is %v", b)
	}
	wantTag(t, s, 3, api.Tag{Kind: api.KindCtx})

	five := of(t, tags{x: num()}, ranged(x, 0, 5)...)
	wantInside(t, five, of(t, tags{x: num()}, ranged(x, 0, 9)...), true)
	wantInside(t, five, of(t, nil), true)
	wantInside(t, five, of(t, tags{x: num()}, ranged(x, 1, 9)...), false)
	wantInside(t, five, of(t, tags{x: maybe(0)}), false)
	wantInside(t, of(t, tags{x: num()}, exactly(x, 0)...), of(t, tags{x: maybe(0)}), true)
	wantInside(t, of(t, tags{x: row(0)}, exactly(x, 0)...), of(t, tags{x: maybe(0)}), true)
	wantInside(t, of(t, tags{x: row(0)}, exactly(x, 0)...), of(t, tags{x: maybe(1)}), false)
	wantInside(t, of(t, tags{slot2: num()}), of(t, tags{slot2: mask(255)}), true)
	wantInside(t, of(t, tags{slot2: mask(3)}), of(t, tags{slot2: mask(1)}), true)
	wantInside(t, of(t, tags{slot2: kind(api.KindStack)}), of(t, tags{slot2: mask(1)}), false)

	r, n := of(t, tags{x: row(1)}, exactly(x, 0)...), of(t, tags{x: num()}, exactly(x, 0)...)
	wantShape(t, r.Both(n), tags{x: maybe(1)})
	wantShape(t, of(t, tags{slot2: num()}).Both(of(t, tags{slot2: mask(15)})), tags{slot2: mask(15)})
	wantShape(t, of(t, tags{slot2: kind(api.KindStack)}).Both(of(t, tags{slot2: num()})), nil)
}

// TestDead (P9.2): it is dead, each time anew.
func TestDead(t *testing.T) {
	a, b := shape.Dead(), shape.Dead()
	wantDead(t, a)
	if a == b || a.Zone == b.Zone {
		t.Error("Dead() answers one shape twice")
	}
	if !alike(a.Claim(), api.Claim{Dead: true}) {
		t.Errorf("Claim() = %v", a.Claim())
	}
	s, e := shape.From(api.Claim{Dead: true, Cons: []api.Con{}})
	wantDead(t, right(t, s, e))
}

// TestStart (P9.3): its bounds at lengths within the limits, one after the other; refused beyond them.
func TestStart(t *testing.T) {
	for _, l := range [][2]int{{0, 0}, {0, 9}, {9, 9}, {4, 100}, {0, api.MaxCtx}, {api.MaxCtx, api.MaxCtx}, {1, api.MaxCtx - 1}} {
		s, e := shape.Start(api.Program{Lo: l[0], Hi: l[1]})
		want := slices.Concat(ranged(1, l[0], l[1]), ranged(4, l[0], l[1]), exactly(3, 0), cons(con(1, 4, 0), con(4, 1, 0)),
			cons(con(1, 3, l[1]), con(3, 1, -l[0]), con(4, 3, l[1]), con(3, 4, -l[0])))
		wantShape(t, right(t, s, e), tags{3: kind(api.KindCtx), 4: num()}, want...)
		k, _ := reckonStart(api.Program{Lo: l[0], Hi: l[1]})
		wantLike(t, s, k)
	}
	for _, l := range [][2]int{{-1, 9}, {-1, -1}, {0, api.MaxCtx + 1}, {api.MaxCtx + 1, api.MaxCtx + 1}, {10, 9}, {1, 0}, {0, -1}, {api.MaxCtx, 0}, {math.MinInt, math.MaxInt}, {math.MaxInt, math.MinInt}, {math.MinInt, 5}, {5, math.MaxInt}} {
		wantRefused(t, api.ErrArg)(shape.Start(api.Program{Lo: l[0], Hi: l[1], Code: []api.Ins{{Op: api.OpExit}}}))
	}
	s, e := shape.Start(api.Program{Hi: 5, Data: make([]byte, 9), Tables: []api.Table{{Rows: -1}}, Code: []api.Ins{{Op: 99}}})
	k, _ := reckonStart(api.Program{Hi: 5})
	wantLike(t, right(t, s, e), k)
}

// TestTold (P9.4): Claim, Tag and Span of a shape with something of everything, and of variables that are none.
func TestTold(t *testing.T) {
	l := tags{2: num(), 3: kind(api.KindCtx), 11: maybe(7), 12: mask(255), 13: mask(1), 42: kind(api.KindData), 43: row(3)}
	cs := cons(con(0, 44, most), con(1, 0, 7), con(2, 0, most), con(43, 59, -most), con(44, 0, -most), con(59, 58, 3))
	s := of(t, l, cs...)
	for v := range 64 {
		wantTag(t, s, v-2, l[v-2])
	}
	wantSpan(t, s, 0, api.Span{})
	wantSpan(t, s, 1, api.Span{NoLo: true, Hi: 7})
	wantSpan(t, s, 2, api.Span{NoLo: true, Hi: most})
	wantSpan(t, s, 3, api.Span{NoLo: true, NoHi: true})
	wantSpan(t, s, 44, api.Span{Lo: -most, Hi: -most})
	wantSpan(t, of(t, nil, con(0, 59, most)), 59, api.Span{Lo: -most, NoHi: true})
	wantSpan(t, of(t, nil, con(0, 59, -most)), 59, api.Span{Lo: most, NoHi: true})
	for _, v := range []int{math.MinInt, -most, -60, -2, -1, 60, 61, 3600, most, math.MaxInt} {
		for _, now := range []*shape.Shape{s, of(t, nil), shape.Dead()} {
			wantTag(t, now, v, api.Tag{})
			wantSpan(t, now, v, api.Span{NoLo: true, NoHi: true})
		}
	}
	for v := range vars {
		wantTag(t, shape.Dead(), v, api.Tag{})
		wantSpan(t, shape.Dead(), v, api.Span{NoLo: true, NoHi: true})
	}
	k, _ := reckonFrom(claim(l, cs...))
	wantLike(t, s, k)
}

// TestPromoted (The calls): what is asked of a shape as of a zone is its zone's.
func TestPromoted(t *testing.T) {
	s := of(t, tags{x: num(), y: num()}, con(x, 0, 5), con(0, x, 0), con(y, x, 2))
	z := zoned(t, con(x, 0, 5), con(0, x, 0), con(y, x, 2))
	same := func(a, b *zone.Zone) {
		t.Helper()
		if !a.Same(b) {
			t.Errorf("got %v; want %v", a.Cons(), b.Cons())
		}
	}
	same(s.Zone, z)
	same(s.Forget(x), z.Forget(x))
	same(s.Join(zone.New()), zone.New())
	same(s.Widen(z), z)
	if s.Empty() || !s.Same(z) || !s.Within(z) || s.Bound(y, 0) != is(7) || !slices.Equal(s.Cons(), z.Cons()) {
		t.Error("a shape's zone says otherwise than the zone")
	}
	a, _ := s.Assign(y, x, -3)
	b, _ := z.Assign(y, x, -3)
	same(a, b)
	a, _ = s.With(con(x, 0, 3))
	b, _ = z.With(con(x, 0, 3))
	same(a, b)
	a, _ = s.Put(x, make([]api.Bound, vars), make([]api.Bound, vars))
	same(a, z.Forget(x))
	if s.Bound(x, 0) != is(5) {
		t.Error("a zone's call changed the shape")
	}

	d := shape.Dead()
	a, e := d.With(con(x, 0, 3))
	f, _ := d.Assign(x, 0, 1)
	if !d.Empty() || len(d.Cons()) != 0 || d.Bound(3, 3) != (api.Bound{}) || !d.Same(void(t)) || !d.Within(z) || !a.Empty() || e != api.OK || !f.Empty() || !d.Forget(x).Empty() || !d.Join(z).Same(z) {
		t.Error("a dead shape's zone is not the empty one")
	}
}
