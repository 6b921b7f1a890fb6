package step

import (
	"warrant/api"
	"warrant/span"
)

// slotSize is the bytes of a slot.
const slotSize = api.StackSize / api.Slots

// place is where a load, a store or an atomic operation reads or writes: a pointer, moved by Off, and its size.
type place struct {
	operand
	size int
}

// place is that of a register and an instruction's Off; it is none, if there is no pointer to a region that is known.
func (w *way) place(r int, i api.Ins) (place, api.Errno) {
	o := w.reg(r)
	if !w.points(o) {
		return place{}, api.TrapKind
	}
	o.k += i.Off
	return place{o, i.Size}, api.OK
}

// points tells whether an operand points to a region of which the size is known.
func (w *way) points(o operand) bool {
	return isFixed(o) || o.Kind == api.KindRow && o.Table < len(w.p.Tables)
}

// size is how many bytes the region of a pointer has; of the context nobody knows it ahead of a run.
func (w *way) size(o operand) int {
	switch o.Kind {
	case api.KindData:
		return len(w.p.Data)
	case api.KindRow:
		return w.p.Tables[o.Table].Wide
	}
	return api.StackSize
}

// within tells whether a place lies in its region.
func (w *way) within(p place) bool {
	s := w.span(p.term)
	switch {
	case s.NoLo || s.Lo < 0:
		return false
	case p.Kind == api.KindCtx:
		b := w.ahead.Bound(p.v, api.VarLen)
		return b.Is && b.C+p.k+p.size <= 0
	}
	return !s.NoHi && s.Hi+p.size <= w.size(p.operand)
}

// load: OpLoad, OpLoads.
func (w *way) load(i api.Ins) api.Errno {
	p, e := w.place(i.Src, i)
	switch {
	case e != api.OK:
		return e
	case !w.within(p):
		return api.TrapBounds
	}
	switch t := w.touched(p).(type) {
	case cell:
		return w.fetch(variable(i.Dst), t)
	case stretch:
		if e := w.unread(t.masks()); e != api.OK {
			return e
		}
	}
	w.freeIn(variable(i.Dst), span.Bytes(i.Size, i.Op == api.OpLoads))
	return api.OK
}

// fetch makes a register what a slot is.
func (w *way) fetch(v int, c cell) api.Errno {
	o := w.known(c.v)
	switch {
	case o.Kind != api.KindNone:
		w.put(v, o)
	case o.Mask != allBytes:
		return api.TrapInit
	default:
		w.freeIn(v, span.Full())
	}
	return api.OK
}

func (w *way) store(i api.Ins) api.Errno {
	p, e := w.place(i.Dst, i)
	o := w.second(i)
	switch {
	case e != api.OK:
		return e
	case o.Kind == api.KindNone:
		return api.TrapKind
	case p.Kind == api.KindData:
		return api.TrapWrite
	case !w.within(p):
		return api.TrapBounds
	}
	switch t := w.touched(p).(type) {
	case cell:
		w.put(t.v, o)
		return api.OK
	case stretch:
		w.write(t.masks(), t.fixed)
	}
	if !isNum(o) { // nothing but a whole slot can hold a pointer
		return api.TrapLeak
	}
	return api.OK
}

func (w *way) atom(i api.Ins) api.Errno {
	p, e := w.place(i.Dst, i)
	switch {
	case e != api.OK:
		return e
	case !isNum(w.reg(i.Src)), i.Imm == api.AtomCmpx && !isNum(w.reg(0)):
		return api.TrapKind
	case p.Kind == api.KindData:
		return api.TrapWrite
	case !w.within(p):
		return api.TrapBounds
	}
	m := w.touched(p).masks()
	if e := w.unread(m); e != api.OK {
		return e
	}
	w.write(m, false)
	switch {
	case i.Imm == api.AtomCmpx:
		w.freeIn(variable(0), span.Bytes(i.Size, false))
	case i.Imm&api.AtomFetch != 0: // AtomXchg has that bit too
		w.freeIn(variable(i.Src), span.Bytes(i.Size, false))
	}
	return api.OK
}
