package shape_test

import (
	"slices"
	"testing"

	"warrant/api"
	"warrant/shape"
)

// thing is what may be known of a register or slot: a tag, and whether it is exactly 0.
type thing struct {
	name string
	tag  api.Tag
	zero bool
}

// at is the shape in which just that is known of a variable.
func (a thing) at(t *testing.T, v int) *shape.Shape {
	t.Helper()
	if a.zero {
		return of(t, tags{v: a.tag}, exactly(v, 0)...)
	}
	return of(t, tags{v: a.tag})
}

// regThings are those of registers; a name that ends with ! is exactly 0.
func regThings() []thing {
	l := []thing{{name: "none"}, {name: "maybe0", tag: maybe(0)}, {name: "maybe1", tag: maybe(1)}, {name: "maybe7", tag: maybe(7)}}
	for _, a := range []thing{
		{name: "num", tag: num()}, {name: "stack", tag: kind(api.KindStack)}, {name: "ctx", tag: kind(api.KindCtx)}, {name: "data", tag: kind(api.KindData)},
		{name: "row0", tag: row(0)}, {name: "row1", tag: row(1)},
	} {
		l = append(l, a, thing{a.name + "!", a.tag, true})
	}
	return l
}

// slotThings are those of slots: masks beside them.
func slotThings() []thing {
	l := regThings()
	for name, m := range map[string]int{"mask1": 1, "mask3": 3, "mask15": 15, "mask128": 128, "mask240": 240, "mask255": 255} {
		l = append(l, thing{name: name, tag: mask(m)})
	}
	return l
}

// maybeOf names the things that are as good as a KindMaybe of a table, but for itself.
func maybeOf(name string) []string {
	switch name {
	case "maybe0":
		return []string{"num!", "row0!"}
	case "maybe1":
		return []string{"num!", "row1!"}
	case "maybe7":
		return []string{"num!"}
	}
	return nil
}

// TestInsideTags (P9.6): each tag against each, of registers and of slots, exactly 0 and not.
func TestInsideTags(t *testing.T) {
	for _, v := range []int{2, x, 11} {
		for _, o := range regThings() {
			for _, s := range regThings() {
				is := o.tag == api.Tag{} || o.tag == s.tag && (s.zero || !o.zero) || slices.Contains(maybeOf(o.name), s.name)
				wantInside(t, s.at(t, v), o.at(t, v), is)
			}
		}
	}
	for _, v := range []int{12, slot2, 43} {
		for _, o := range slotThings() {
			for _, s := range slotThings() {
				is := o.tag == s.tag && (s.zero || !o.zero) || slices.Contains(maybeOf(o.name), s.name)
				if o.tag.Kind == api.KindNone {
					is = o.tag.Mask == 0 || s.tag.Kind == api.KindNum || s.tag.Kind == api.KindNone && s.tag.Mask|o.tag.Mask == s.tag.Mask
				}
				wantInside(t, s.at(t, v), o.at(t, v), is)
			}
		}
	}
}

// TestMerged (P9.7): Both and Wider of each tag with each, of registers and of slots, exactly 0 and not.
func TestMerged(t *testing.T) {
	for _, v := range []int{2, x, 11} {
		for _, a := range regThings() {
			for _, b := range regThings() {
				wantMerged(t, v, a, b, api.Tag{})
			}
		}
	}
	bytes := map[string]int{"num": 255, "num!": 255, "mask1": 1, "mask3": 3, "mask15": 15, "mask128": 128, "mask240": 240, "mask255": 255}
	for _, v := range []int{12, slot2, 43} {
		for _, a := range slotThings() {
			for _, b := range slotThings() {
				wantMerged(t, v, a, b, mask(bytes[a.name]&bytes[b.name]))
			}
		}
	}
}

// wantMerged: of two things Both and Wider say this, if they are neither of the same tag nor a KindMaybe together.
func wantMerged(t *testing.T, v int, a, b thing, want api.Tag) {
	t.Helper()
	null := map[[2]string]api.Tag{
		{"maybe0", "row0!"}: maybe(0), {"maybe0", "num!"}: maybe(0), {"num!", "row0!"}: maybe(0),
		{"maybe1", "row1!"}: maybe(1), {"maybe1", "num!"}: maybe(1), {"num!", "row1!"}: maybe(1), {"maybe7", "num!"}: maybe(7),
	}
	var left []api.Con
	if tag, is := null[[2]string{min(a.name, b.name), max(a.name, b.name)}]; is {
		want = tag
	}
	if a.tag == b.tag {
		want = a.tag
		if a.zero && b.zero {
			left = exactly(v, 0)
		}
	}
	wantShape(t, a.at(t, v).Both(b.at(t, v)), tags{v: want}, left...)
	wantShape(t, a.at(t, v).Wider(b.at(t, v)), tags{v: want}, left...)
}

// TestNearlyZero (P9.6, P9.7): exactly 0 is by both bounds, and in the shape's own zone.
func TestNearlyZero(t *testing.T) {
	null := of(t, tags{x: maybe(0)})
	zeroed := of(t, tags{x: row(0)}, exactly(x, 0)...)
	for _, tag := range []api.Tag{num(), row(0)} {
		for _, cs := range [][]api.Con{nil, {con(x, 0, 0)}, {con(0, x, 0)}, ranged(x, 0, 1), ranged(x, -1, 0), exactly(x, 1), exactly(x, -1), {con(x, y, 0), con(y, x, 0)}} {
			s := of(t, tags{x: tag, y: num()}, cs...)
			wantInside(t, s, null, false)
			for _, m := range []*shape.Shape{s.Both(null), null.Both(s), s.Wider(null), null.Wider(s)} {
				wantShape(t, m, nil)
			}
			if tag == num() {
				for _, m := range []*shape.Shape{s.Both(zeroed), zeroed.Both(s), s.Wider(zeroed), zeroed.Wider(s)} {
					wantShape(t, m, nil)
				}
			}
		}
		s := of(t, tags{x: tag, y: num()}, append(exactly(y, 0), con(x, y, 0), con(y, x, 0))...)
		wantInside(t, s, null, true)
		wantShape(t, s.Both(null), tags{x: maybe(0)})
	}
}

// TestInsideBounds (P9.6): for each bound of o one of s that is no greater: less, equal, greater, none.
func TestInsideBounds(t *testing.T) {
	l := tags{x: num(), y: num()}
	for _, p := range [][2]int{{x, 0}, {0, x}, {x, y}, {y, 59}, {44, 1}} {
		at := func(c int) *shape.Shape { return of(t, l, con(p[0], p[1], c)) }
		for _, c := range []int{0, 5, -5, most - 1, 1 - most} {
			wantInside(t, at(c), at(c+1), true)
			wantInside(t, at(c), at(c), true)
			wantInside(t, at(c), at(c-1), false)
			wantInside(t, at(c), of(t, l), true)
			wantInside(t, of(t, l), at(c), false)
			wantInside(t, at(c), of(t, l, con(p[1], p[0], -c)), false)
			wantInside(t, of(t, l, con(p[0], p[1], c), con(p[1], p[0], -c)), at(c), true)
		}
	}
	wantInside(t, of(t, l, con(x, 0, 3), con(y, 0, 3)), of(t, l, con(x, 0, 3), con(y, 0, 2)), false)
	wantInside(t, of(t, l, con(x, 0, 3)), of(t, nil), true)
	wantInside(t, of(t, l, con(x, 0, 3)), of(t, tags{x: num()}, con(x, 0, 3)), true)
	wantInside(t, of(t, tags{x: num()}, con(x, 0, 3)), of(t, l, con(x, 0, 3)), false)
}

// TestMergedBounds (P9.7): Both has the greater bounds, Wider the first one's that the other has no greater; of variables that lose their value none, but what the others had by them stays.
func TestMergedBounds(t *testing.T) {
	l := tags{x: num(), y: num()}
	a, b := of(t, l, con(x, 0, 5), con(0, x, 0), con(y, 59, 2)), of(t, l, con(x, 0, 9), con(0, x, -2), con(59, y, 2))
	wantShape(t, a.Both(b), l, ranged(x, 0, 9)...)
	wantShape(t, b.Both(a), l, ranged(x, 0, 9)...)
	wantShape(t, a.Wider(b), l, con(0, x, 0))
	wantShape(t, b.Wider(a), l, con(x, 0, 9))
	wantShape(t, a.Wider(a), l, a.Cons()...)
	wantShape(t, a.Both(a), l, a.Cons()...)

	a = of(t, tags{x: num(), y: num(), 7: num()}, con(y, x, 1), con(x, 7, 2))
	b = of(t, tags{x: kind(api.KindCtx), y: num(), 7: num()}, con(y, x, 4), con(x, 7, 4))
	left := tags{y: num(), 7: num()}
	wantShape(t, a.Both(b), left, con(y, 7, 8))
	wantShape(t, b.Both(a), left, con(y, 7, 8))
	wantShape(t, a.Wider(b), left)
	wantShape(t, b.Wider(a), left, con(y, 7, 8))

	a = of(t, tags{slot2: num(), y: num()}, con(y, slot2, 1), con(slot2, 0, 2))
	b = of(t, tags{slot2: mask(3), y: num()}, con(y, 0, 1))
	wantShape(t, a.Both(b), tags{slot2: mask(3), y: num()}, con(y, 0, 3))
	wantShape(t, b.Both(a), tags{slot2: mask(3), y: num()}, con(y, 0, 3))
	wantShape(t, a.Wider(b), tags{slot2: mask(3), y: num()}, con(y, 0, 3))
	wantShape(t, b.Wider(a), tags{slot2: mask(3), y: num()})
}

// TestDeadPairs (P9.6, P9.7): a dead shape lies in each, nothing else in it; beside it the other one is the answer.
func TestDeadPairs(t *testing.T) {
	l := tags{x: num(), y: maybe(3), 12: mask(9), 43: row(1)}
	live := []*shape.Shape{of(t, nil), of(t, l, con(x, 43, 5), con(0, 59, -most)), of(t, tags{x: num()}, exactly(x, 0)...)}
	dead := []*shape.Shape{shape.Dead(), shape.Dead()}
	s, e := shape.Make([10]api.Tag{num()}, [api.Slots]api.Tag{num()}, void(t))
	dead = append(dead, right(t, s, e), shape.Dead().Both(s), shape.Dead().Wider(s))
	for _, d := range dead {
		for _, o := range dead {
			wantInside(t, d, o, true)
			wantDead(t, d.Both(o))
			wantDead(t, d.Wider(o))
		}
		for _, o := range live {
			wantInside(t, d, o, true)
			wantInside(t, o, d, false)
			for _, m := range []*shape.Shape{d.Both(o), o.Both(d), d.Wider(o), o.Wider(d)} {
				wantLike(t, m, seen(o))
			}
		}
	}
}
