package step

import "warrant/api"

// joint is how two operands are joined to a sum or a difference.
type joint struct {
	sign   int // by which what is added to the second one counts
	ends   func(a, b api.Span) (lo, hi int, exact bool)
	bounds func(w *way, x, y, q int) (up, down api.Bound)
}

func jointOf(op int) joint {
	if op == api.OpSub {
		return joint{-1, differenceEnds, (*way).differenceBounds}
	}
	return joint{1, sumEnds, (*way).sumBounds}
}

// renew makes a register the sum or the difference of it and another operand, by all that is known of the two.
func (w *way) renew(x, y operand, j joint) {
	if y.v == zero { // a number, or r10, which is as good as one
		w.assign(x.v, term{x.v, j.sign * y.k})
		return
	}
	var up, down [api.Vars]api.Bound
	for q := range up {
		up[q], down[q] = j.bounds(w, x.v, y.v, q)
	}
	w.zone, _ = w.zone.Put(x.v, up[:], down[:])
}

// sumBounds are those of the sum of x and y less q, and of q less it.
func (w *way) sumBounds(x, y, q int) (up, down api.Bound) {
	m := w.ahead.Bound
	return lesser(added(m(x, q), m(y, zero)), added(m(y, q), m(x, zero))),
		lesser(added(m(q, x), m(zero, y)), added(m(q, y), m(zero, x)))
}

// differenceBounds are those of x less y.
func (w *way) differenceBounds(x, y, q int) (up, down api.Bound) {
	m := w.ahead.Bound
	up, down = added(m(x, q), m(zero, y)), added(m(q, x), m(y, zero))
	if q == zero {
		return lesser(up, m(x, y)), lesser(down, m(y, x))
	}
	return up, down
}

// added is a sum of bounds, as chapter 5 has it.
func added(a, b api.Bound) api.Bound {
	if !a.Is || !b.Is || a.C+b.C > api.Most {
		return api.Bound{}
	}
	return api.Bound{Is: true, C: max(a.C+b.C, -api.Most)}
}

func lesser(a, b api.Bound) api.Bound {
	if !a.Is || b.Is && b.C < a.C {
		return b
	}
	return a
}

// sumEnds are the ends of a sum of numbers of two spans; exact: ints hold both.
func sumEnds(a, b api.Span) (lo, hi int, exact bool) {
	lo, is := plus(low(a), low(b))
	hi, as := plus(high(a), high(b))
	return lo, hi, is && as
}

func differenceEnds(a, b api.Span) (lo, hi int, exact bool) {
	lo, is := minus(low(a), high(b))
	hi, as := minus(high(a), low(b))
	return lo, hi, is && as
}

// plus and minus tell besides whether an int holds their answer.
func plus(a, b int) (int, bool) { return a + b, (a+b > a) == (b > 0) }

func minus(a, b int) (int, bool) { return a - b, (a-b < a) == (b > 0) }
