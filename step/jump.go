package step

import "warrant/api"

// contrary is the operation that holds where another one does not; OpJset has none.
func contrary(op int) int {
	switch op {
	case api.OpJeq:
		return api.OpJne
	case api.OpJne:
		return api.OpJeq
	case api.OpJgt:
		return api.OpJle
	case api.OpJge:
		return api.OpJlt
	case api.OpJlt:
		return api.OpJge
	case api.OpJle:
		return api.OpJgt
	case api.OpJsgt:
		return api.OpJsle
	case api.OpJsge:
		return api.OpJslt
	case api.OpJslt:
		return api.OpJsge
	case api.OpJsle:
		return api.OpJsgt
	}
	return op
}

// signed is an operation with signs in the place of one without.
func signed(op int) int {
	switch op {
	case api.OpJgt:
		return api.OpJsgt
	case api.OpJge:
		return api.OpJsge
	case api.OpJlt:
		return api.OpJslt
	case api.OpJle:
		return api.OpJsle
	}
	return op
}

func hasSign(op int) bool {
	switch op {
	case api.OpJsgt, api.OpJsge, api.OpJslt, api.OpJsle:
		return true
	}
	return false
}

// branch: the conditional jumps, where the operation holds.
func (w *way) branch(i api.Ins) api.Errno {
	a, b := w.reg(i.Dst), w.second(i)
	switch {
	case isNum(a) && isNum(b):
		w.numbers(i, a, b)
	case i.Narrow, i.Op == api.OpJset:
		return api.TrapKind
	case isFixed(a) && a.Kind == b.Kind:
		w.refine(signed(i.Op), a.term, b.term)
	case !i.Reg && i.Imm == 0 && (i.Op == api.OpJeq || i.Op == api.OpJne):
		return w.null(a, i.Op == api.OpJeq)
	default:
		return api.TrapKind
	}
	return api.OK
}

// null: a row, or what may be one, held against 0.
func (w *way) null(a operand, is bool) api.Errno {
	row := a
	row.Kind, row.term = api.KindRow, term{zero, 0}
	switch {
	case a.Kind != api.KindRow && a.Kind != api.KindMaybe:
		return api.TrapKind
	case a.Kind == api.KindMaybe && is:
		w.put(a.v, number(0))
	case a.Kind == api.KindMaybe:
		w.put(a.v, row)
	case is: // no pointer is 0
		w.with(zero, zero, -1)
	}
	return api.OK
}

// numbers: two numbers, or their low halves, which are told by the numbers alone where these are small.
func (w *way) numbers(i api.Ins, a, b operand) {
	x, y, half := a.term, b.term, lowHalf(b).term
	switch {
	case !i.Narrow:
		w.refine(i.Op, x, y)
	case hasSign(i.Op):
		w.refineIn(integers(32), i.Op, x, y)
	case w.refineIn(naturals(32), signed(i.Op), x, half):
	case i.Op == api.OpJeq, i.Op == api.OpJne:
		w.refineIn(integers(32), i.Op, x, y)
	}
}

// refineIn refines, if both terms are in a room; false: they are not.
func (w *way) refineIn(r room, op int, x, y term) bool {
	is := r.holds(w.span(x)) && r.holds(w.span(y))
	if is {
		w.refine(op, x, y)
	}
	return is
}

// order is what an operation says: a rule of x, and of y and e; turned: of y, and of x and e.
type order struct {
	rule   func(w *way, x, y term, e int)
	turned bool
	e      int
}

// orderOf is an operation's; OpJset says nothing.
func orderOf(op int) order {
	switch op {
	case api.OpJeq:
		return order{(*way).equal, false, 0}
	case api.OpJne:
		return order{(*way).unlike, false, -1}
	case api.OpJlt:
		return order{(*way).below, false, -1}
	case api.OpJle:
		return order{(*way).below, false, 0}
	case api.OpJgt:
		return order{(*way).below, true, -1}
	case api.OpJge:
		return order{(*way).below, true, 0}
	case api.OpJslt:
		return order{(*way).atMost, false, -1}
	case api.OpJsle:
		return order{(*way).atMost, false, 0}
	case api.OpJsgt:
		return order{(*way).atMost, true, -1}
	case api.OpJsge:
		return order{(*way).atMost, true, 0}
	}
	return order{(*way).unsaid, false, 0}
}

func (w *way) refine(op int, x, y term) {
	o := orderOf(op)
	if o.turned {
		x, y = y, x
	}
	o.rule(w, x, y, o.e)
}

func (w *way) unsaid(_, _ term, _ int) {}

// atMost: x is at most y and e. (Of one variable that is told by numbers alone: nothing, or no assignment is left.)
func (w *way) atMost(x, y term, e int) { w.with(x.v, y.v, e+y.k-x.k) }

func (w *way) equal(x, y term, e int) {
	w.atMost(x, y, e)
	w.atMost(y, x, e)
}

// unlike says something where one of the two is at most the other one already.
func (w *way) unlike(x, y term, e int) {
	down, up := w.isAtMost(y, x), w.isAtMost(x, y)
	if down {
		w.atMost(y, x, e)
	}
	if up {
		w.atMost(x, y, e)
	}
}

// isAtMost tells whether x is known to be at most y.
func (w *way) isAtMost(x, y term) bool {
	b := w.ahead.Bound(x.v, y.v)
	return b.Is && b.C <= y.k-x.k
}

// below: x is at most y and e, without signs.
func (w *way) below(x, y term, e int) {
	a, b := w.span(x), w.span(y)
	switch {
	case low(b) >= 0:
		w.atMost(term{zero, 0}, x, 0)
		w.atMost(x, y, e)
	case high(a) < 0 && high(b) < 0:
		w.atMost(x, y, e)
	}
}
