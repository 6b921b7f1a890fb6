package step

import "warrant/api"

// allBytes is the mask of a slot of which each byte is written.
const allBytes = 1<<slotSize - 1

// masks are bytes of the stack: of each slot those that have a bit.
type masks [api.Slots]int

// touched is what an instruction reads or writes in memory; its masks are the bytes of the stack that it may touch.
type touched interface{ masks() masks }

// cell is a whole slot, by its variable.
type cell struct{ v int }

// stretch is the bytes of the stack from one on and below another one; fixed: all of them are touched, and not but some.
type stretch struct {
	from, to int
	fixed    bool
}

// elsewhere is some of a region of which no byte is known.
type elsewhere struct{}

// touched tells what a place, which lies in its region, is.
func (w *way) touched(p place) touched {
	s := w.span(p.term)
	switch {
	case p.Kind != api.KindStack:
		return elsewhere{}
	case single(s) && p.size == slotSize && s.Lo%slotSize == 0:
		return cell{api.VarSlot + s.Lo/slotSize}
	}
	return stretch{s.Lo, s.Hi + p.size, single(s)}
}

func (c cell) masks() masks {
	var m masks
	m[c.v-api.VarSlot] = allBytes
	return m
}

func (s stretch) masks() masks {
	var m masks
	for x := s.from; x < s.to; x++ {
		m[x/slotSize] |= 1 << (x % slotSize)
	}
	return m
}

func (elsewhere) masks() masks { return masks{} }

// written is the mask of a slot's bytes that are known to be written.
func written(o operand) int {
	switch o.Kind {
	case api.KindNum:
		return allBytes
	case api.KindNone:
		return o.Mask
	}
	return 0
}

// unread is the trap that may keep bytes of the stack from being read.
func (w *way) unread(m masks) api.Errno {
	for n, bits := range m {
		if o := w.known(api.VarSlot + n); bits != 0 && (isPointer(o) || o.Kind == api.KindMaybe) {
			return api.TrapKind
		}
	}
	for n, bits := range m {
		if bits&^written(w.known(api.VarSlot+n)) != 0 {
			return api.TrapInit
		}
	}
	return api.OK
}

// write makes slots of which bytes may be written bytes alone: those that were written stay so; surely: those that are now become so.
func (w *way) write(m masks, surely bool) {
	for n, bits := range m {
		if bits == 0 {
			continue
		}
		v := api.VarSlot + n
		now := written(w.known(v))
		if surely {
			now |= bits
		}
		w.free(v, api.Tag{Mask: now})
	}
}
