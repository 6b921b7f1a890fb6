package mach

import (
	"bytes"
	"slices"

	"warrant/api"
	"warrant/help"
)

func (m *Machine) call(i api.Ins) api.Errno {
	sig, is := help.Sig(i.Imm)
	if !is || !m.given(sig.Args) || i.Imm == api.HelpRow && !m.isTable(m.regs[1].X) {
		return api.TrapCall
	}
	if e := m.goOn(); e != api.OK {
		return e
	}
	m.regs[0] = m.answer(i.Imm)
	clear(m.regs[1:6])
	return api.OK
}

// given tells whether r1 to r5 hold what a helper is asked for.
func (m *Machine) given(args []int) bool {
	for k, arg := range args {
		if !m.isGiven(arg, k+1, k+1+slices.Index(args[k:], api.ArgLen)) {
			return false
		}
	}
	return true
}

// isGiven tells it of the register r; if that is a piece's, length is the register of its length.
func (m *Machine) isGiven(arg, r, length int) bool {
	switch arg {
	case api.ArgNum:
		return isNumber(m.regs[r])
	case api.ArgLen:
		return m.isLength(r)
	case api.ArgRead:
		p, is := m.lent(r, length)
		return is && m.unread(p) == api.OK
	case api.ArgWrite:
		p, is := m.lent(r, length)
		return is && p.from.Kind != api.KindData
	}
	return true
}

func (m *Machine) isLength(r int) bool {
	v := m.regs[r]
	return isNumber(v) && 0 <= v.X && v.X <= api.MaxSpan
}

func (m *Machine) isTable(n int) bool { return 0 <= n && n < len(m.tables) }

// lent is the piece of a pointer and a length; false, if there is none.
func (m *Machine) lent(r, length int) (piece, bool) {
	if !isPointer(m.regs[r]) || !m.isLength(length) {
		return piece{}, false
	}
	p := m.piece(r, length)
	return p, m.holds(p)
}

func (m *Machine) piece(r, length int) piece { return piece{m.regs[r], m.regs[length].X} }

// answer does what a helper does that is given what it is asked for, and is r0 behind that.
func (m *Machine) answer(id int) api.Value {
	x, y, z := m.regs[1].X, m.regs[2].X, m.regs[3].X
	switch id {
	case api.HelpSum:
		return number(help.Sum(m.read(m.piece(1, 2)), z))
	case api.HelpCopy:
		m.write(m.regs[1], m.read(m.piece(2, 3)))
	case api.HelpFill:
		m.write(m.regs[1], bytes.Repeat([]byte{byte(y)}, z))
	case api.HelpDiff:
		return number(help.Diff(m.read(m.piece(1, 3)), m.read(m.piece(2, 3))))
	case api.HelpFind:
		return number(help.Find(m.read(m.piece(1, 2)), z))
	case api.HelpEmit:
		return number(m.emit(x))
	case api.HelpRow:
		if 0 <= y && y < m.sizes[x].Rows {
			return api.Value{Kind: api.KindRow, Table: x, Row: y}
		}
	case api.HelpMix:
		return number(help.Mix(x, y))
	}
	return number(0)
}

// emit sends a number, if one more may be sent.
func (m *Machine) emit(n int) int {
	if len(m.sent) == api.MaxSent {
		return -1
	}
	m.sent = append(m.sent, n)
	return 0
}
