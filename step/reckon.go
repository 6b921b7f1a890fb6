package step

import (
	"warrant/api"
	"warrant/span"
)

// reckon: arithmetic that numbers alone take.
func (w *way) reckon(i api.Ins) api.Errno {
	d, y := w.reg(i.Dst), w.second(i)
	if !isNum(y) || readsDst(i.Op) && !isNum(d) {
		return api.TrapKind
	}
	if divides(i.Op) && !span.NotZero(i.Narrow, w.span(y.term)) {
		return api.TrapDiv
	}
	exactly := (*way).keeps
	if i.Narrow {
		exactly = (*way).keepsLow
	}
	if exactly(w, i, d, y) {
		return api.OK
	}
	w.freeIn(d.v, w.answer(i, w.span(d.term), w.span(y.term)))
	if i.Op == api.OpMod && !i.Narrow && i.Reg && i.Src != i.Dst && low(w.span(y.term)) >= 1 {
		w.with(d.v, y.v, -1)
	}
	return api.OK
}

// readsDst tells whether an operation reads what it writes.
func readsDst(op int) bool { return op != api.OpMov && op != api.OpMovs }

func divides(op int) bool {
	switch op {
	case api.OpDiv, api.OpMod, api.OpSdiv, api.OpSmod:
		return true
	}
	return false
}

// answer is a span of what an operation makes of numbers of two spans.
func (w *way) answer(i api.Ins, a, b api.Span) api.Span {
	switch i.Op {
	case api.OpMovs:
		return span.Extend(i.Size, i.Narrow, b)
	case api.OpLe, api.OpBe, api.OpBswap:
		return span.Swap(i.Size, i.Op != api.OpLe, a)
	}
	return span.Alu(i.Op, i.Narrow, a, b)
}

// keeps does what is but a number that stands there already; false: it is more.
func (w *way) keeps(i api.Ins, d, y operand) bool {
	switch {
	case i.Op == api.OpMovs && integers(i.Size).holds(w.span(y.term)):
		w.put(d.v, y)
		return true
	case i.Op == api.OpLe && i.Size == 64:
		return true
	}
	return false
}

// keepsLow does, of 32 bits, what a zone can say of whole numbers too; false: it is more.
func (w *way) keepsLow(i api.Ins, d, y operand) bool {
	switch i.Op {
	case api.OpMov:
		y = lowHalf(y)
		return w.copies(d, y, naturals(32).holds(w.span(y.term)))
	case api.OpMovs:
		s := w.span(y.term)
		return w.copies(d, y, low(s) >= 0 && high(s) <= integers(i.Size).to)
	case api.OpAdd, api.OpSub:
		return w.joinsLow(i, d, y)
	}
	return false
}

// copies makes a register another operand, if it may.
func (w *way) copies(d, y operand, may bool) bool {
	if may {
		w.put(d.v, y)
	}
	return may
}

// joinsLow makes a register a sum or a difference, if nothing of it wraps in 32 bits.
func (w *way) joinsLow(i api.Ins, d, y operand) bool {
	if i.Op == api.OpSub && i.Reg && i.Src == i.Dst {
		return w.copies(d, number(0), true)
	}
	half, j := naturals(32), jointOf(i.Op)
	a, b := w.span(d.term), w.span(y.term)
	lo, hi, _ := j.ends(a, b)
	if !half.holds(a) || i.Reg && !half.holds(b) || !half.has(lo) || !half.has(hi) {
		return false
	}
	w.renew(d, y, j)
	return true
}

// lowHalf is the low half of a number that stands in an instruction; a register stays.
func lowHalf(o operand) operand {
	if o.v == zero {
		o.k &= naturals(32).to
	}
	return o
}
