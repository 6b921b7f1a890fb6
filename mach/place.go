package mach

import (
	"warrant/api"
	"warrant/word"
)

// place is the piece that an instruction reads or writes by a pointer; of what is no pointer there is none.
func place(p api.Value, i api.Ins) (piece, api.Errno) {
	if !isPointer(p) {
		return piece{}, api.TrapKind
	}
	p.X += i.Off
	return piece{p, i.Size}, api.OK
}

// load: OpLoad, OpLoads.
func (m *Machine) load(i api.Ins) api.Errno {
	p, e := place(m.regs[i.Src], i)
	if e != api.OK {
		return e
	}
	if !m.holds(p) {
		return api.TrapBounds
	}
	if s := m.whole(p); s != nil && isPointer(s.Ptr) {
		return m.set(i.Dst, s.Ptr)
	}
	if e := m.unread(p); e != api.OK {
		return e
	}
	return m.set(i.Dst, number(word.Get(m.read(p), i.Op == api.OpLoads)))
}

func (m *Machine) store(i api.Ins) api.Errno {
	p, e := place(m.regs[i.Dst], i)
	if e != api.OK {
		return e
	}
	v := m.second(i)
	switch {
	case v.Kind == api.KindNone:
		return api.TrapKind
	case p.from.Kind == api.KindData:
		return api.TrapWrite
	case !m.holds(p):
		return api.TrapBounds
	case isPointer(v):
		return m.keep(p, v)
	}
	e = m.goOn()
	if e == api.OK {
		m.write(p.from, word.Put(i.Size, v.X))
	}
	return e
}

// keep stores a pointer, which nothing but a slot can hold.
func (m *Machine) keep(p piece, v api.Value) api.Errno {
	s := m.whole(p)
	if s == nil {
		return api.TrapLeak
	}
	e := m.goOn()
	if e == api.OK {
		*s = api.Slot{Ptr: v}
	}
	return e
}

func (m *Machine) atom(i api.Ins) api.Errno {
	p, e := place(m.regs[i.Dst], i)
	if e != api.OK {
		return e
	}
	src, r0 := m.regs[i.Src], m.regs[0]
	switch {
	case !isNumber(src), i.Imm == api.AtomCmpx && !isNumber(r0):
		return api.TrapKind
	case p.from.Kind == api.KindData:
		return api.TrapWrite
	case !m.holds(p):
		return api.TrapBounds
	}
	if e := m.unread(p); e != api.OK {
		return e
	}
	old := word.Get(m.read(p), false)
	if e := m.goOn(); e != api.OK {
		return e
	}
	m.write(p.from, word.Put(i.Size, behind(i, old, src.X, r0.X)))
	switch {
	case i.Imm == api.AtomCmpx:
		m.regs[0] = number(old)
	case i.Imm&api.AtomFetch != 0: // AtomXchg has that bit too
		m.regs[i.Src] = number(old)
	}
	return api.OK
}

// behind is the number whose low bytes stand in the place behind an atomic operation.
func behind(i api.Ins, old, src, r0 int) int {
	switch i.Imm {
	case api.AtomXchg:
		return src
	case api.AtomCmpx:
		if old == word.Get(word.Put(i.Size, r0), false) {
			return src
		}
		return old
	}
	v, _ := word.Alu(joining(i.Imm&^api.AtomFetch), false, old, src)
	return v
}

// joining is the operation by which an atomic one joins.
func joining(atom int) int {
	switch atom {
	case api.AtomOr:
		return api.OpOr
	case api.AtomAnd:
		return api.OpAnd
	case api.AtomXor:
		return api.OpXor
	}
	return api.OpAdd
}
