package shape_test

import (
	"math"
	"slices"
	"testing"

	"warrant/api"
	"warrant/shape"
	"warrant/zone"
)

// each calls From and Make of tags alone.
func each(l tags) []func() (*shape.Shape, api.Errno) {
	regs, stack := l.lists()
	return []func() (*shape.Shape, api.Errno){
		func() (*shape.Shape, api.Errno) { return shape.From(claim(l)) },
		func() (*shape.Shape, api.Errno) { return shape.Make(regs, stack, zone.New()) },
	}
}

// TestGoodTags (P9.1, P9.2): each kind with each table and mask, at the limits and beyond them, of the first and the last register and slot.
func TestGoodTags(t *testing.T) {
	for k := api.KindNone; k <= api.KindMaybe; k++ {
		for _, table := range []int{0, 1, 7, -1, 8, math.MinInt, math.MaxInt} {
			for _, m := range []int{0, 1, 128, 255, 256, -1, 257, math.MinInt, math.MaxInt} {
				tabled := k == api.KindRow || k == api.KindMaybe
				good := table == 0 || tabled && (table == 1 || table == 7)
				masked := k == api.KindNone && (m == 1 || m == 128 || m == 255)
				tag := api.Tag{Kind: k, Table: table, Mask: m}
				wantTagged(t, tag, good && m == 0, 2, 5, 11)
				wantTagged(t, tag, good && (m == 0 || masked), 12, 30, 43)
			}
		}
	}
	for _, k := range []int{-1, 7, 8, math.MinInt, math.MaxInt} {
		wantTagged(t, kind(k), false, 2, 11, 12, 43)
		wantTagged(t, api.Tag{Kind: k, Table: 1}, false, 2, 43)
		wantTagged(t, api.Tag{Kind: k, Mask: 1}, false, 2, 43)
	}
}

// wantTagged: the variables may, or may not, have the tag.
func wantTagged(t *testing.T, tag api.Tag, good bool, vs ...int) {
	t.Helper()
	for _, v := range vs {
		for _, call := range each(tags{v: tag}) {
			s, e := call()
			if good {
				wantShape(t, right(t, s, e), tags{v: tag})
			} else {
				wantRefused(t, api.ErrKind)(s, e)
			}
		}
	}
}

// TestAllTags (P9.1, P9.2): of each register and slot the tag is looked at, and told of its own variable.
func TestAllTags(t *testing.T) {
	all := tags{}
	for v := 2; v <= 43; v++ {
		all[v] = api.Tag{Kind: v % 7}
		if isSlot(v) && v%7 == 0 {
			all[v] = mask(v)
		}
	}
	for _, call := range each(all) {
		s, e := call()
		wantShape(t, right(t, s, e), all)
	}
	for v := range all {
		for _, call := range each(tags{v: {Kind: api.KindNum, Mask: 1}}) {
			wantRefused(t, api.ErrKind)(call())
		}
		wantRefused(t, api.ErrCons)(shape.From(claim(tags{v: maybe(1)}, con(v, 0, 1))))
		wantShape(t, of(t, tags{v: num()}, con(v, 0, 1)), tags{v: num()}, con(v, 0, 1))
	}
}

// TestFromVars (P9.1): ErrVar of Cons whose variables are none, or one and the same.
func TestFromVars(t *testing.T) {
	for _, v := range []int{-1, 60, 61, -60, math.MinInt, math.MaxInt} {
		for _, o := range []int{0, 59, x, 7, v} {
			for _, c := range []int{0, -1, most, most + 1, math.MinInt} {
				wantRefused(t, api.ErrVar)(shape.From(claim(tags{x: num()}, con(v, o, c))))
				wantRefused(t, api.ErrVar)(shape.From(claim(tags{x: num()}, con(o, v, c))))
			}
		}
	}
	for _, v := range []int{0, 1, 2, x, 11, 12, 43, 44, 59} {
		for _, c := range []int{0, 5, -1, most, most + 1} {
			wantRefused(t, api.ErrVar)(shape.From(claim(tags{x: num()}, con(v, v, c))))
		}
	}
	wantShape(t, of(t, nil, con(0, 59, 3), con(59, 1, 3), con(59, 0, -3)), nil, con(0, 59, 3), con(59, 0, -3), con(59, 1, 3), con(0, 1, 6))
}

// TestFromValues (P9.1): ErrCons, if one of a Con's variables has no value; those that are no register's and no slot's always have one.
func TestFromValues(t *testing.T) {
	always := []int{0, 1}
	for v := 44; v <= 59; v++ {
		always = append(always, v)
	}
	for n, v := range always {
		w := always[(n+1)%len(always)]
		wantShape(t, of(t, nil, con(v, w, 1)), nil, con(v, w, 1))
	}
	for v := 2; v <= 43; v++ {
		for _, w := range []int{0, 1, 44, 59} {
			for k := api.KindNone; k <= api.KindMaybe; k++ {
				cs := cons(con(v, w, 3), con(w, v, 3))
				if k == api.KindNone || k == api.KindMaybe {
					wantRefused(t, api.ErrCons)(shape.From(claim(tags{v: kind(k)}, cs[0])))
					wantRefused(t, api.ErrCons)(shape.From(claim(tags{v: kind(k)}, cs[1])))
				} else {
					wantShape(t, of(t, tags{v: kind(k)}, cs...), tags{v: kind(k)}, cs...)
				}
			}
		}
	}
	wantRefused(t, api.ErrCons)(shape.From(claim(tags{x: num()}, con(x, y, 3))))
	wantRefused(t, api.ErrCons)(shape.From(claim(tags{x: num()}, con(y, x, 3))))
	wantRefused(t, api.ErrCons)(shape.From(claim(tags{slot2: mask(255)}, con(slot2, 0, 3))))
}

// TestFromConst (P9.1): C from -Most to Most.
func TestFromConst(t *testing.T) {
	for _, c := range []int{most, -most, 0, 1} {
		wantShape(t, of(t, tags{x: num(), y: num()}, con(x, y, c)), tags{x: num(), y: num()}, con(x, y, c))
	}
	for _, c := range []int{most + 1, -most - 1, math.MinInt, math.MaxInt} {
		wantRefused(t, api.ErrConst)(shape.From(claim(tags{x: num(), y: num()}, con(x, y, c))))
		wantRefused(t, api.ErrConst)(shape.From(claim(nil, con(0, 59, c))))
	}
}

// TestFromVoid (P9.1): ErrVoid, where no numbers meet the Cons; not one less.
func TestFromVoid(t *testing.T) {
	l := tags{x: num(), y: row(2)}
	wantRefused(t, api.ErrVoid)(shape.From(claim(l, con(x, y, 3), con(y, x, -4))))
	of(t, l, con(x, y, 3), con(y, x, -3))
	wantRefused(t, api.ErrVoid)(shape.From(claim(l, con(x, y, 3), con(y, 59, 3), con(59, x, -7))))
	of(t, l, con(x, y, 3), con(y, 59, 3), con(59, x, -6))
	wantRefused(t, api.ErrVoid)(shape.From(claim(nil, con(0, 1, -1), con(1, 0, 0))))
	wantShape(t, of(t, l, con(x, y, 3), con(y, 59, 3)), l, con(x, y, 3), con(x, 59, 6), con(y, 59, 3))
}

// TestFromOrder (P9.1, R2): where two errors apply, the one that comes first: tags ahead of Cons, Con by Con, each by its variables, their values, its number; the zone last.
func TestFromOrder(t *testing.T) {
	l := tags{x: num()}
	bad := tags{x: num(), 43: {Kind: api.KindRow, Table: 8}}
	noVar, noValue, noBound := con(60, x, 1), con(x, y, 1), con(x, 0, most+1)
	lo, hi := con(0, x, -5), con(x, 0, 4)
	for _, c := range []api.Con{noVar, noValue, noBound, con(60, y, most+1), lo} {
		wantRefused(t, api.ErrKind)(shape.From(claim(bad, c)))
	}
	wantRefused(t, api.ErrKind)(shape.From(claim(bad, lo, hi)))
	wantRefused(t, api.ErrVar)(shape.From(claim(l, con(60, y, most+1))))
	wantRefused(t, api.ErrVar)(shape.From(claim(l, con(y, y, most+1))))
	wantRefused(t, api.ErrVar)(shape.From(claim(l, con(y, -1, -most-1))))
	wantRefused(t, api.ErrCons)(shape.From(claim(l, con(y, x, most+1))))
	wantRefused(t, api.ErrCons)(shape.From(claim(l, con(x, y, math.MinInt))))
	wrong := []struct {
		c api.Con
		e api.Errno
	}{{noVar, api.ErrVar}, {noValue, api.ErrCons}, {noBound, api.ErrConst}, {con(0, x, -most-1), api.ErrConst}, {con(x, x, -1), api.ErrVar}}
	for _, a := range wrong {
		wantRefused(t, a.e)(shape.From(claim(l, lo, hi, a.c)))
		wantRefused(t, a.e)(shape.From(claim(l, a.c, lo, hi)))
		for _, b := range wrong {
			wantRefused(t, a.e)(shape.From(claim(l, a.c, b.c)))
			wantRefused(t, a.e)(shape.From(claim(l, con(x, 0, 7), a.c, lo, b.c, hi)))
		}
	}
}

// TestFromDead (P9.1): a dead claim has no tag that is not zero, and no Con, right or wrong; with one it is ErrDead, ahead of all else.
func TestFromDead(t *testing.T) {
	refused := func(c api.Claim) {
		t.Helper()
		c.Dead = true
		wantRefused(t, api.ErrDead)(shape.From(c))
	}
	for v := 2; v <= 43; v++ {
		for _, tag := range []api.Tag{num(), kind(7), kind(-1), row(1), mask(1), mask(256), {Table: 1}} {
			refused(claim(tags{v: tag}))
		}
	}
	for _, c := range []api.Con{con(0, 1, 5), {}, con(0, 0, -1), con(x, 0, 1), con(60, 0, 1), con(0, 1, most+1)} {
		refused(claim(nil, c))
		refused(claim(tags{x: num()}, c))
	}
	s, e := shape.From(api.Claim{Dead: true})
	wantDead(t, right(t, s, e))
}

// TestMake (P9.2): the tags and all bounds of the zone; open ones too.
func TestMake(t *testing.T) {
	open := zoned(t, con(x, y, 1), con(y, 59, 1), con(x, 59, 0)).Widen(zoned(t, con(x, y, 1), con(y, 59, 1)))
	l := tags{x: num(), y: row(3), 12: mask(9), 43: maybe(1)}
	regs, stack := l.lists()
	for _, z := range []*zone.Zone{zone.New(), open, zoned(t, ranged(x, -most, most)...), zoned(t, con(x, 0, 1), con(1, 58, -9))} {
		s, e := shape.Make(regs, stack, z)
		wantShape(t, right(t, s, e), l, z.Cons()...)
		k, _ := reckonMake(regs, stack, z)
		wantLike(t, s, k)
	}
}

// TestMakeRefused (P9.2): ErrKind ahead of ErrCons, also of the empty zone; that makes the dead shape, whatever the tags.
func TestMakeRefused(t *testing.T) {
	bad := tags{x: num(), 7: kind(7)}
	for _, l := range []tags{nil, {x: num(), 43: mask(3)}, {x: maybe(2)}} {
		regs, stack := l.lists()
		s, e := shape.Make(regs, stack, void(t))
		wantDead(t, right(t, s, e))
	}
	regs, stack := bad.lists()
	for _, z := range []*zone.Zone{void(t), zone.New(), zoned(t, con(8, 0, 1)), zoned(t, con(x, 0, 1))} {
		wantRefused(t, api.ErrKind)(shape.Make(regs, stack, z))
	}
	for v := 2; v <= 43; v++ {
		for _, k := range []int{api.KindNone, api.KindMaybe} {
			regs, stack := tags{v: kind(k), 2 + (v-1)%42: num()}.lists()
			for _, w := range []int{0, 1, 2 + (v-1)%42, 44, 59} {
				wantRefused(t, api.ErrCons)(shape.Make(regs, stack, zoned(t, con(v, w, 1))))
				wantRefused(t, api.ErrCons)(shape.Make(regs, stack, zoned(t, con(w, v, most))))
			}
		}
		for k := api.KindNum; k <= api.KindRow; k++ {
			l := tags{v: kind(k)}
			regs, stack := l.lists()
			s, e := shape.Make(regs, stack, zoned(t, con(v, 59, 1)))
			wantShape(t, right(t, s, e), l, con(v, 59, 1))
		}
	}
	s, e := shape.Make([10]api.Tag{}, [api.Slots]api.Tag{}, zoned(t, slices.Concat(exactly(1, 4), exactly(44, 0), exactly(59, 0))...))
	right(t, s, e)
}
