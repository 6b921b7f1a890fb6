package shape_test

import (
	"math/big"

	"warrant/api"
	"warrant/zone"
)

// The chapter's calls once more, word by word and as plainly as can be: what the package answers is held against these.

const (
	vars = 60
	most = 1 << 60
)

// reckoned is a shape: dead, or a tag for each variable (the zero one of those that are no register's and no slot's) and a bound or none for each pair.
type reckoned struct {
	dead bool
	tag  [vars]api.Tag
	m    [vars][vars]api.Bound
}

func is(c int) api.Bound { return api.Bound{Is: true, C: c} }

func isReg(v int) bool { return v >= 2 && v <= 11 }

func isSlot(v int) bool { return v >= 12 && v <= 43 }

func isVar(v int) bool { return v >= 0 && v <= 59 }

// goodTag: what the chapter says of good tags.
func goodTag(t api.Tag, slot bool) bool {
	if t.Kind < 0 || t.Kind > 6 || t.Table < 0 || t.Table > 7 {
		return false
	}
	if t.Table != 0 && t.Kind != api.KindRow && t.Kind != api.KindMaybe {
		return false
	}
	if t.Mask == 0 {
		return true
	}
	return slot && t.Kind == api.KindNone && t.Mask > 0 && t.Mask <= 255
}

func goodTags(regs [10]api.Tag, stack [api.Slots]api.Tag) bool {
	for _, t := range regs {
		if !goodTag(t, false) {
			return false
		}
	}
	for _, t := range stack {
		if !goodTag(t, true) {
			return false
		}
	}
	return true
}

// hasValue tells whether a variable has a value by its tag.
func (k *reckoned) hasValue(v int) bool {
	if !isReg(v) && !isSlot(v) {
		return true
	}
	switch k.tag[v].Kind {
	case api.KindNum, api.KindStack, api.KindCtx, api.KindData, api.KindRow:
		return true
	}
	return false
}

// put lays tags and the bounds of a zone together.
func (k *reckoned) put(regs [10]api.Tag, stack [api.Slots]api.Tag, z *zone.Zone) {
	for n, t := range regs {
		k.tag[2+n] = t
	}
	for n, t := range stack {
		k.tag[12+n] = t
	}
	if z == nil {
		return
	}
	for i := range vars {
		for j := range vars {
			k.m[i][j] = z.Bound(i, j)
		}
	}
}

func reckonDead() reckoned { return reckoned{dead: true} }

func reckonFrom(c api.Claim) (reckoned, api.Errno) {
	var none api.Claim
	if c.Dead {
		if c.Regs != none.Regs || c.Stack != none.Stack || len(c.Cons) != 0 {
			return reckoned{}, api.ErrDead
		}
		return reckonDead(), api.OK
	}
	if !goodTags(c.Regs, c.Stack) {
		return reckoned{}, api.ErrKind
	}
	var k reckoned
	k.put(c.Regs, c.Stack, nil)
	for _, con := range c.Cons {
		if !isVar(con.I) || !isVar(con.J) || con.I == con.J {
			return reckoned{}, api.ErrVar
		}
		if !k.hasValue(con.I) || !k.hasValue(con.J) {
			return reckoned{}, api.ErrCons
		}
		if con.C < -most || con.C > most {
			return reckoned{}, api.ErrConst
		}
	}
	z, _ := zone.New().With(c.Cons...)
	if z.Empty() {
		return reckoned{}, api.ErrVoid
	}
	k.put(c.Regs, c.Stack, z)
	return k, api.OK
}

func reckonMake(regs [10]api.Tag, stack [api.Slots]api.Tag, z *zone.Zone) (reckoned, api.Errno) {
	if !goodTags(regs, stack) {
		return reckoned{}, api.ErrKind
	}
	var k reckoned
	k.put(regs, stack, z)
	for i := range vars {
		for j := range vars {
			if i != j && k.m[i][j].Is && (!k.hasValue(i) || !k.hasValue(j)) {
				return reckoned{}, api.ErrCons
			}
		}
	}
	if z.Empty() {
		return reckonDead(), api.OK
	}
	return k, api.OK
}

func reckonStart(p api.Program) (reckoned, api.Errno) {
	if p.Lo < 0 || p.Hi > 65535 || p.Lo > p.Hi {
		return reckoned{}, api.ErrArg
	}
	var regs [10]api.Tag
	regs[1].Kind, regs[2].Kind = api.KindCtx, api.KindNum
	z, _ := zone.New().With(con(0, 1, -p.Lo), con(1, 0, p.Hi))
	z, _ = z.Assign(3, 0, 0)
	z, _ = z.Assign(4, 1, 0)
	var k reckoned
	k.put(regs, [api.Slots]api.Tag{}, z)
	return k, api.OK
}

func (k *reckoned) cons() []api.Con {
	var l []api.Con
	for i := range vars {
		for j := range vars {
			if i != j && k.m[i][j].Is {
				l = append(l, con(i, j, k.m[i][j].C))
			}
		}
	}
	return l
}

func (k *reckoned) claim() api.Claim {
	if k.dead {
		return api.Claim{Dead: true}
	}
	c := api.Claim{Cons: k.cons()}
	for n := range c.Regs {
		c.Regs[n] = k.tag[2+n]
	}
	for n := range c.Stack {
		c.Stack[n] = k.tag[12+n]
	}
	return c
}

func (k *reckoned) tagOf(v int) api.Tag {
	if !isVar(v) {
		return api.Tag{}
	}
	return k.tag[v]
}

func (k *reckoned) bound(i, j int) api.Bound {
	if !isVar(i) || !isVar(j) {
		return api.Bound{}
	}
	return k.m[i][j]
}

func (k *reckoned) span(v int) api.Span {
	s := api.Span{NoLo: true, NoHi: true}
	if k.dead || !isVar(v) {
		return s
	}
	if b := k.m[0][v]; b.Is {
		s.Lo, s.NoLo = -b.C, false
	}
	if b := k.m[v][0]; b.Is {
		s.Hi, s.NoHi = b.C, false
	}
	return s
}

// holds: DOC.md, 'When a state is of a shape'.
func (k *reckoned) holds(st api.State, ghosts []int) bool {
	if k.dead || len(ghosts) != 16 {
		return false
	}
	for n, v := range st.Regs[:10] {
		if !regHolds(k.tag[2+n], v) {
			return false
		}
	}
	for n, s := range st.Stack {
		if !slotHolds(k.tag[12+n], s) {
			return false
		}
	}
	for i := range vars {
		for j := range vars {
			if b := k.m[i][j]; b.Is {
				less := new(big.Int).Sub(numberOf(st, ghosts, i), numberOf(st, ghosts, j))
				if less.Cmp(big.NewInt(int64(b.C))) > 0 {
					return false
				}
			}
		}
	}
	return true
}

func regHolds(t api.Tag, v api.Value) bool {
	switch t.Kind {
	case api.KindNone:
		return true
	case api.KindNum, api.KindStack, api.KindCtx, api.KindData:
		return v.Kind == t.Kind
	case api.KindRow:
		return v.Kind == api.KindRow && v.Table == t.Table
	}
	return v.Kind == api.KindRow && v.Table == t.Table && v.X == 0 || v.Kind == api.KindNum && v.X == 0
}

func slotHolds(t api.Tag, s api.Slot) bool {
	bytes := s.Ptr.Kind == api.KindNone
	whole := bytes && s.Mask&0xff == 0xff
	switch t.Kind {
	case api.KindNone:
		return t.Mask == 0 || bytes && s.Mask&t.Mask == t.Mask
	case api.KindNum:
		return whole
	case api.KindMaybe:
		return whole && s.Bytes == [8]byte{} || s.Ptr.Kind == api.KindRow && s.Ptr.Table == t.Table && s.Ptr.X == 0
	case api.KindRow:
		return s.Ptr.Kind == api.KindRow && s.Ptr.Table == t.Table
	}
	return s.Ptr.Kind == t.Kind
}

// numberOf is the number of a variable that has one in the state.
func numberOf(st api.State, ghosts []int, v int) *big.Int {
	n := 0
	switch {
	case v == 0:
	case v == 1:
		n = len(st.Ctx)
	case isReg(v):
		n = st.Regs[v-2].X
	case isSlot(v) && st.Stack[v-12].Ptr.Kind != api.KindNone:
		n = st.Stack[v-12].Ptr.X
	case isSlot(v):
		for k, b := range st.Stack[v-12].Bytes {
			n |= int(b) << (8 * k)
		}
	default:
		n = ghosts[v-44]
	}
	return big.NewInt(int64(n))
}

// exactly0: both bounds of v and the number 0 are 0.
func (k *reckoned) exactly0(v int) bool { return k.m[v][0] == is(0) && k.m[0][v] == is(0) }

func (k *reckoned) inside(o *reckoned) bool {
	if k.dead {
		return true
	}
	if o.dead {
		return false
	}
	for v := range vars {
		if !k.goodAs(o, v) {
			return false
		}
	}
	for i := range vars {
		for j := range vars {
			if b := o.m[i][j]; b.Is && !(k.m[i][j].Is && k.m[i][j].C <= b.C) {
				return false
			}
		}
	}
	return true
}

func (k *reckoned) goodAs(o *reckoned, v int) bool {
	a, b := k.tag[v], o.tag[v]
	if isSlot(v) && b.Kind == api.KindNone && b.Mask != 0 {
		return a.Kind == api.KindNum || a.Kind == api.KindNone && a.Mask&b.Mask == b.Mask
	}
	if b.Kind == api.KindNone || a == b {
		return true
	}
	if b.Kind != api.KindMaybe {
		return false
	}
	return (a.Kind == api.KindRow && a.Table == b.Table || a.Kind == api.KindNum) && k.exactly0(v)
}

// both is Both, or (widen) Wider.
func (k *reckoned) both(o *reckoned, widen bool) reckoned {
	if k.dead {
		return *o
	}
	if o.dead {
		return *k
	}
	var r reckoned
	for v := range vars {
		if isReg(v) || isSlot(v) {
			r.tag[v] = k.bothTag(o, v)
		}
	}
	for i := range vars {
		for j := range vars {
			a, b := k.m[i][j], o.m[i][j]
			switch {
			case i == j:
				r.m[i][j] = is(0)
			case !r.hasValue(i) || !r.hasValue(j) || !a.Is || !b.Is:
			case b.C <= a.C:
				r.m[i][j] = a
			case !widen:
				r.m[i][j] = b
			}
		}
	}
	return r
}

func (k *reckoned) bothTag(o *reckoned, v int) api.Tag {
	a, b := k.tag[v], o.tag[v]
	if a == b {
		return a
	}
	for _, p := range []struct {
		a, b   api.Tag
		az, bz bool
	}{{a, b, k.exactly0(v), o.exactly0(v)}, {b, a, o.exactly0(v), k.exactly0(v)}} {
		maybe := api.Tag{Kind: api.KindMaybe, Table: p.a.Table}
		switch {
		case p.a.Kind == api.KindMaybe && p.b.Kind == api.KindRow && p.b.Table == p.a.Table && p.bz:
			return maybe
		case p.a.Kind == api.KindMaybe && p.b.Kind == api.KindNum && p.bz:
			return maybe
		case p.a.Kind == api.KindRow && p.b.Kind == api.KindNum && p.az && p.bz:
			return maybe
		}
	}
	if isReg(v) {
		return api.Tag{}
	}
	return api.Tag{Mask: bits(a) & bits(b)}
}

// bits are the bytes of a slot that are written, by its tag.
func bits(t api.Tag) int {
	switch t.Kind {
	case api.KindNone:
		return t.Mask
	case api.KindNum:
		return 255
	}
	return 0
}

// isClosed tells whether no way through a third variable says more than a bound does; of bounds so small that no sum leaves them.
func (k *reckoned) isClosed() bool {
	for via := range vars {
		for p := range vars {
			if !k.m[p][via].Is {
				continue
			}
			for q := range vars {
				a, b, c := k.m[p][via], k.m[via][q], k.m[p][q]
				if b.Is && a.C+b.C <= most && (!c.Is || c.C > max(a.C+b.C, -most)) {
					return false
				}
			}
		}
	}
	return true
}
