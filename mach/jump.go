package mach

import (
	"warrant/api"
	"warrant/word"
)

// jump: OpJa.
func (m *Machine) jump(api.Ins) api.Errno { return m.goTo(m.goals[m.at]) }

// branch: the conditional jumps.
func (m *Machine) branch(i api.Ins) api.Errno {
	taken, e := decided(i, m.regs[i.Dst], m.second(i))
	switch {
	case e != api.OK:
		return e
	case taken:
		return m.goTo(m.goals[m.at])
	}
	return m.goOn()
}

// decided tells whether a conditional jump's condition holds of its operands.
func decided(i api.Ins, a, b api.Value) (bool, api.Errno) {
	switch {
	case isNumber(a) && isNumber(b):
		return word.Holds(i.Op, i.Narrow, a.X, b.X), api.OK
	case i.Narrow, i.Op == api.OpJset:
	case isFixed(a) && a.Kind == b.Kind:
		return word.Holds(signed(i.Op), false, a.X, b.X), api.OK
	case a.Kind == api.KindRow && !i.Reg && i.Imm == 0 && (i.Op == api.OpJeq || i.Op == api.OpJne):
		return i.Op == api.OpJne, api.OK
	}
	return false, api.TrapKind
}

// signed is a condition with signs in the place of one without: offsets have them.
func signed(op int) int {
	switch op {
	case api.OpJgt:
		return api.OpJsgt
	case api.OpJge:
		return api.OpJsge
	case api.OpJlt:
		return api.OpJslt
	case api.OpJle:
		return api.OpJsle
	}
	return op
}

func (m *Machine) exit(api.Ins) api.Errno {
	if !isNumber(m.regs[0]) {
		return api.TrapLeak
	}
	m.steps++
	m.done = true
	return api.OK
}
