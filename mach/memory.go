package mach

import (
	"slices"

	"warrant/api"
)

// memory is what a run reads and writes by pointers.
type memory struct {
	stack  [api.Slots]api.Slot
	ctx    []byte
	data   []byte
	tables [][]byte
	sizes  []api.Table
}

// slotSize is the bytes of a slot.
const slotSize = api.StackSize / api.Slots

// piece is so many bytes of a region, from a pointer's offset on.
type piece struct {
	from api.Value
	size int
}

// begun is the memory with which a run begins; it shares none with what was handed in.
func begun(p api.Program, in api.Input) memory {
	return memory{
		ctx:    slices.Clone(in.Ctx),
		data:   slices.Clone(p.Data),
		tables: clones(in.Tables),
		sizes:  slices.Clone(p.Tables),
	}
}

// clones are lists of their own, of the same bytes.
func clones(l [][]byte) [][]byte {
	l = slices.Clone(l)
	for n := range l {
		l[n] = slices.Clone(l[n])
	}
	return l
}

// region is the bytes into which a pointer points; none of a pointer to the stack, which is of slots.
func (m *memory) region(p api.Value) []byte {
	switch p.Kind {
	case api.KindCtx:
		return m.ctx
	case api.KindData:
		return m.data
	case api.KindRow:
		wide := m.sizes[p.Table].Wide
		return m.tables[p.Table][p.Row*wide : (p.Row+1)*wide]
	}
	return nil
}

// holds tells whether a piece lies in its region.
func (m *memory) holds(p piece) bool {
	size := api.StackSize
	if p.from.Kind != api.KindStack {
		size = len(m.region(p.from))
	}
	return 0 <= p.from.X && p.from.X+p.size <= size
}

// slot is where a byte of the stack lies: its slot, and its place there.
func (m *memory) slot(x int) (*api.Slot, int) { return &m.stack[x/slotSize], x % slotSize }

// whole is the slot of the stack that a piece is; nil, if it is none.
func (m *memory) whole(p piece) *api.Slot {
	if p.from.Kind != api.KindStack || p.size != slotSize || p.from.X%slotSize != 0 {
		return nil
	}
	s, _ := m.slot(p.from.X)
	return s
}

// unread is the trap that keeps a piece, which its region holds, from being read as bytes.
func (m *memory) unread(p piece) api.Errno {
	if p.from.Kind != api.KindStack {
		return api.OK
	}
	for k := range p.size {
		if s, _ := m.slot(p.from.X + k); isPointer(s.Ptr) {
			return api.TrapKind
		}
	}
	for k := range p.size {
		if s, at := m.slot(p.from.X + k); s.Mask&(1<<at) == 0 {
			return api.TrapInit
		}
	}
	return api.OK
}

// read is a piece's bytes: of the stack a copy, of another region the bytes where they lie.
func (m *memory) read(p piece) []byte {
	if p.from.Kind != api.KindStack {
		return m.region(p.from)[p.from.X : p.from.X+p.size]
	}
	b := make([]byte, p.size)
	for k := range b {
		s, at := m.slot(p.from.X + k)
		b[k] = s.Bytes[at]
	}
	return b
}

// write makes bytes those from a pointer's offset on; they may be what was read elsewhere in that region.
func (m *memory) write(from api.Value, b []byte) {
	if from.Kind != api.KindStack {
		copy(m.region(from)[from.X:], b)
		return
	}
	for k, v := range b {
		s, at := m.slot(from.X + k)
		if isPointer(s.Ptr) {
			*s = api.Slot{}
		}
		s.Bytes[at] = v
		s.Mask |= 1 << at
	}
}
