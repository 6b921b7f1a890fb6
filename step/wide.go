package step

import (
	"warrant/api"
	"warrant/span"
)

// mov: OpMov of 64 bits.
func (w *way) mov(i api.Ins) api.Errno {
	y := w.second(i)
	if y.Kind == api.KindNone {
		return api.TrapKind
	}
	w.put(variable(i.Dst), y)
	return api.OK
}

// move: OpAdd and OpSub of a number.
func (w *way) move(i api.Ins) api.Errno {
	d, c := w.reg(i.Dst), i.Imm
	if i.Op == api.OpSub {
		c = -c
	}
	s := w.span(d.term)
	switch {
	case isPointer(d):
		if s.NoLo || s.NoHi || s.Lo+c < -api.MaxOff || s.Hi+c > api.MaxOff {
			return api.TrapOff
		}
	case !isNum(d):
		return api.TrapKind
	case c > 0 && s.NoHi, c < 0 && s.NoLo: // it may wrap
		w.freeIn(d.v, span.Full())
		return api.OK
	}
	w.assign(d.v, term{d.v, c})
	return api.OK
}

// add: OpAdd of a register.
func (w *way) add(i api.Ins) api.Errno {
	d, y := w.reg(i.Dst), w.reg(i.Src)
	switch {
	case isNum(d) && isNum(y):
		w.join(i.Op, d, y)
		return api.OK
	case isPointer(d) && isNum(y):
		return w.point(i.Op, d, y, d.Tag)
	case isNum(d) && isPointer(y):
		return w.point(i.Op, d, y, y.Tag)
	}
	return api.TrapKind
}

// sub: OpSub of a register.
func (w *way) sub(i api.Ins) api.Errno {
	d, y := w.reg(i.Dst), w.reg(i.Src)
	switch {
	case i.Src == i.Dst && (isNum(d) || isFixed(d)):
		w.put(d.v, number(0))
	case isNum(d) && isNum(y):
		w.join(i.Op, d, y)
	case isPointer(d) && isNum(y):
		return w.point(i.Op, d, y, d.Tag)
	case isFixed(d) && d.Kind == y.Kind:
		w.tag(d.v, number(0).Tag)
		w.renew(d, y, jointOf(i.Op))
	default:
		return api.TrapKind
	}
	return api.OK
}

// join makes a number the sum or the difference of it and another one, which may wrap.
func (w *way) join(op int, d, y operand) {
	j := jointOf(op)
	if _, _, exact := j.ends(w.span(d.term), w.span(y.term)); !exact {
		w.freeIn(d.v, span.Full())
		return
	}
	w.renew(d, y, j)
}

// point makes a register a pointer that has moved. (Where no assignment is left, there is no offset that could be wrong.)
func (w *way) point(op int, d, y operand, t api.Tag) api.Errno {
	w.tag(d.v, t)
	w.renew(d, y, jointOf(op))
	if !w.zone.Empty() && !w.inRange(d.v) {
		return api.TrapOff
	}
	return api.OK
}

// inRange tells whether a variable is an offset that a pointer may have, behind what was done.
func (w *way) inRange(v int) bool {
	up, down := w.zone.Bound(v, zero), w.zone.Bound(zero, v)
	return up.Is && down.Is && offsets().has(up.C) && offsets().has(-down.C)
}

// wide: OpWide. Beyond Most no bound says more than that.
func (w *way) wide(i api.Ins) api.Errno {
	v := variable(i.Dst)
	switch {
	case i.Imm > api.Most:
		w.freeIn(v, api.Span{Lo: api.Most, NoHi: true})
	case i.Imm < -api.Most:
		w.freeIn(v, api.Span{NoLo: true, Hi: -api.Most})
	default:
		w.put(v, number(i.Imm))
	}
	return api.OK
}

// data: OpData.
func (w *way) data(i api.Ins) api.Errno {
	w.put(variable(i.Dst), operand{api.Tag{Kind: api.KindData}, term{zero, i.Imm}})
	return api.OK
}

func (w *way) exit(api.Ins) api.Errno {
	if !isNum(w.reg(0)) {
		return api.TrapLeak
	}
	return api.OK
}
