package shape

import (
	"warrant/api"
	"warrant/zone"
)

// Inside tells whether the shape lies in another one.
func (s *Shape) Inside(o *Shape) bool {
	if s.Dead() || o.Dead() {
		return s.Dead()
	}
	for v := api.VarReg; v < api.VarGhost; v++ {
		if !s.asGood(v, o.Tag(v)) {
			return false
		}
	}
	return s.Within(o.Zone)
}

// Both is the least shape, by the chapter's rules, that holds two.
func (s *Shape) Both(o *Shape) *Shape { return s.merged(o, (*zone.Zone).Join) }

// Wider keeps of the shape what o keeps too.
func (s *Shape) Wider(o *Shape) *Shape { return s.merged(o, (*zone.Zone).Widen) }

// merged is what is known where one of the two is: the zones merged, but for the variables that have no value any more.
func (s *Shape) merged(o *Shape, merge func(z, o *zone.Zone) *zone.Zone) *Shape {
	t := s.common(o)
	gone := t.valueless()
	return &Shape{merge(s.Forget(gone...), o.Forget(gone...)), t}
}

// common are the tags that both shapes are as good as; of a dead one and another one that one's.
func (s *Shape) common(o *Shape) tags {
	switch {
	case s.Dead():
		return o.tags
	case o.Dead():
		return s.tags
	}
	var t tags
	for n := range t {
		t[n] = s.agreed(o, api.VarReg+n)
	}
	return t
}

// agreed is the tag of one variable that both shapes are as good as.
func (s *Shape) agreed(o *Shape, v int) api.Tag {
	a, b := s.Tag(v), o.Tag(v)
	if a == b {
		return a
	}
	maybe := api.Tag{Kind: api.KindMaybe, Table: max(a.Table, b.Table)} // a number names no table: it has the 0
	if s.asGood(v, maybe) && o.asGood(v, maybe) {
		return maybe
	}
	return api.Tag{Mask: written(a) & written(b)}
}

// asGood tells whether what is known of a register or slot says all that a tag says.
func (s *Shape) asGood(v int, want api.Tag) bool {
	t := s.Tag(v)
	if t == want {
		return true
	}
	switch want.Kind {
	case api.KindNone:
		return written(t)&want.Mask == want.Mask
	case api.KindMaybe:
		row := t.Kind == api.KindRow && t.Table == want.Table
		return (row || t.Kind == api.KindNum) && s.isZero(v)
	}
	return false
}

// isZero tells whether a variable is exactly 0.
func (s *Shape) isZero(v int) bool {
	exact := api.Bound{Is: true, C: 0}
	return s.Bound(v, zero) == exact && s.Bound(zero, v) == exact
}
