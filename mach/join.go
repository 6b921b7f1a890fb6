package mach

import (
	"warrant/api"
	"warrant/word"
)

// past is a distance by which a pointer leaves all offsets, wherever it was.
const past = 2*api.MaxOff + 1

// distance is a number as far as offsets go: one beyond moves a pointer out of them likewise.
func distance(n int) int { return max(-past, min(n, past)) }

// join: arithmetic that numbers alone take.
func (m *Machine) join(i api.Ins) api.Errno {
	a, b := m.regs[i.Dst], m.second(i)
	if !isNumber(a) || !isNumber(b) {
		return api.TrapKind
	}
	v, e := word.Alu(i.Op, i.Narrow, a.X, b.X)
	if e != api.OK {
		return e
	}
	return m.set(i.Dst, number(v))
}

// add: of pointers too, if it is not narrow.
func (m *Machine) add(i api.Ins) api.Errno {
	a, b := m.regs[i.Dst], m.second(i)
	switch {
	case i.Narrow:
	case isPointer(a) && isNumber(b):
		return m.move(i.Dst, a, distance(b.X))
	case isNumber(a) && isPointer(b):
		return m.move(i.Dst, b, distance(a.X))
	}
	return m.join(i)
}

// sub: of pointers too, if it is not narrow.
func (m *Machine) sub(i api.Ins) api.Errno {
	a, b := m.regs[i.Dst], m.second(i)
	switch {
	case i.Narrow:
	case isPointer(a) && isNumber(b):
		return m.move(i.Dst, a, -distance(b.X))
	case isFixed(a) && a.Kind == b.Kind:
		return m.set(i.Dst, number(a.X-b.X))
	}
	return m.join(i)
}

// move makes a register a pointer that is so much further.
func (m *Machine) move(dst int, p api.Value, by int) api.Errno {
	p.X += by
	if p.X < -api.MaxOff || p.X > api.MaxOff {
		return api.TrapOff
	}
	return m.set(dst, p)
}

// mov does not read what it writes.
func (m *Machine) mov(i api.Ins) api.Errno {
	v := m.second(i)
	switch {
	case i.Narrow && isNumber(v):
		low, _ := word.Alu(i.Op, true, 0, v.X)
		return m.set(i.Dst, number(low))
	case i.Narrow, v.Kind == api.KindNone:
		return api.TrapKind
	}
	return m.set(i.Dst, v)
}

// extend: OpMovs.
func (m *Machine) extend(i api.Ins) api.Errno {
	v := m.regs[i.Src]
	if !isNumber(v) {
		return api.TrapKind
	}
	return m.set(i.Dst, number(word.Extend(i.Size, i.Narrow, v.X)))
}

// swap: OpLe, OpBe, OpBswap.
func (m *Machine) swap(i api.Ins) api.Errno {
	v := m.regs[i.Dst]
	if !isNumber(v) {
		return api.TrapKind
	}
	return m.set(i.Dst, number(word.Swap(i.Size, i.Op != api.OpLe, v.X)))
}

// constant: OpWide, OpData.
func (m *Machine) constant(i api.Ins) api.Errno {
	v := number(i.Imm)
	if i.Op == api.OpData {
		v.Kind = api.KindData
	}
	return m.set(i.Dst, v)
}
