package step

import (
	"warrant/api"
	"warrant/shape"
	"warrant/zone"
)

// zero is the variable that is always the number 0.
const zero = 0

// lastReg is r10, which is never written.
const lastReg = api.Regs - 1

// way is a shape on its way over an instruction: what is asked is told of the shape ahead, what is set is of the one behind.
type way struct {
	p     api.Program
	ahead *shape.Shape
	tags  [api.VarGhost - api.VarReg]api.Tag // of the registers and the slots, in the order of their variables
	zone  *zone.Zone
}

// term is a variable, and a number that is added to it.
type term struct{ v, k int }

// operand is what is known of what an instruction reads: a tag, and the term that is its number or offset.
type operand struct {
	api.Tag
	term
}

func begun(p api.Program, s *shape.Shape) *way {
	w := &way{p: p, ahead: s, zone: s.Zone}
	for n := range w.tags {
		w.tags[n] = s.Tag(api.VarReg + n)
	}
	return w
}

// behind is the shape behind the instruction: the dead one, if no assignment is left.
func (w *way) behind() (*shape.Shape, api.Errno) {
	var regs [lastReg]api.Tag
	var stack [api.Slots]api.Tag
	n := copy(regs[:], w.tags[:])
	copy(stack[:], w.tags[n:])
	return shape.Make(regs, stack, w.zone)
}

// known is what is known ahead of a register or a slot.
func (w *way) known(v int) operand { return operand{w.ahead.Tag(v), term{v, 0}} }

func (w *way) reg(r int) operand {
	if r == lastReg {
		return operand{api.Tag{Kind: api.KindStack}, term{zero, api.StackSize}}
	}
	return w.known(variable(r))
}

// second is an instruction's second operand.
func (w *way) second(i api.Ins) operand {
	if i.Reg {
		return w.reg(i.Src)
	}
	return number(i.Imm)
}

// number is a number as an operand.
func number(c int) operand { return operand{api.Tag{Kind: api.KindNum}, term{zero, c}} }

// variable is the variable of one of r0 to r9.
func variable(r int) int { return api.VarReg + r }

// put makes a register or slot what an operand is.
func (w *way) put(v int, o operand) {
	if o.Kind == api.KindMaybe { // of which no bound speaks
		w.free(v, o.Tag)
		return
	}
	w.tag(v, o.Tag)
	w.assign(v, o.term)
}

// free gives a register or slot a tag, and takes away its bounds.
func (w *way) free(v int, t api.Tag) {
	w.tag(v, t)
	w.zone = w.zone.Forget(v)
}

// freeIn makes a register a number of which a span is known.
func (w *way) freeIn(v int, s api.Span) {
	w.free(v, api.Tag{Kind: api.KindNum})
	if !s.NoHi {
		w.with(v, zero, s.Hi)
	}
	if !s.NoLo {
		w.with(zero, v, -s.Lo)
	}
}

func (w *way) tag(v int, t api.Tag) { w.tags[v-api.VarReg] = t }

// with adds that i less j is at most c, assign makes v a term. What they are handed is never refused: terms and ends are within Most.
func (w *way) with(i, j, c int) { w.zone, _ = w.zone.With(api.Con{I: i, J: j, C: c}) }

func (w *way) assign(v int, t term) { w.zone, _ = w.zone.Assign(v, t.v, t.k) }

// stay: nothing changes.
func (w *way) stay(api.Ins) api.Errno { return api.OK }

func isNum(o operand) bool { return o.Kind == api.KindNum }

// isFixed tells whether an operand points to a region of which there is but one: two of these into the same region have an order and a distance.
func isFixed(o operand) bool {
	return o.Kind == api.KindStack || o.Kind == api.KindCtx || o.Kind == api.KindData
}

func isPointer(o operand) bool { return isFixed(o) || o.Kind == api.KindRow }
