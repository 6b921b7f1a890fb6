package shape

import (
	"math"

	"warrant/api"
	"warrant/word"
)

// content is what a register or a slot of a state holds: a value, and of a slot of bytes which of them were written.
type content struct {
	api.Value
	mask int
}

// Holds tells whether a state is of the shape, with ghosts.
func (s *Shape) Holds(st api.State, ghosts []int) bool {
	if s.Dead() || len(ghosts) != api.Vars-api.VarGhost {
		return false
	}
	x := [api.Vars]int{api.VarLen: len(st.Ctx)}
	copy(x[api.VarGhost:], ghosts)
	for v := api.VarReg; v < api.VarGhost; v++ {
		c := found(&st, v)
		if !c.is(s.Tag(v)) {
			return false
		}
		x[v] = c.X
	}
	for _, c := range s.Cons() {
		if !atMost(x[c.I], x[c.J], c.C) {
			return false
		}
	}
	return true
}

// found is what the register or slot of a variable holds.
func found(st *api.State, v int) content {
	if v < api.VarSlot {
		return content{Value: st.Regs[v-api.VarReg]}
	}
	return inSlot(&st.Stack[v-api.VarSlot])
}

// inSlot is what a slot holds: a number, if all its bytes were written; nothing, if it is said to be a number by Ptr, which is for pointers.
func inSlot(s *api.Slot) content {
	switch s.Ptr.Kind {
	case api.KindNone:
		mask := s.Mask & allBytes
		if mask != allBytes {
			return content{mask: mask}
		}
		return content{api.Value{Kind: api.KindNum, X: word.Get(s.Bytes[:], true)}, mask}
	case api.KindNum:
		return content{}
	}
	return content{Value: s.Ptr}
}

// is tells whether what stands there is of a tag.
func (c content) is(t api.Tag) bool {
	row := c.Kind == api.KindRow && c.Table == t.Table
	switch t.Kind {
	case api.KindNone:
		return c.mask&t.Mask == t.Mask
	case api.KindRow:
		return row
	case api.KindMaybe:
		return c.X == 0 && (row || c.Kind == api.KindNum)
	}
	return c.Kind == t.Kind
}

// atMost tells whether x less y is at most c, a bound; no sum is reckoned that an int can't hold.
func atMost(x, y, c int) bool {
	if c < 0 {
		return y >= math.MinInt-c && x <= y+c
	}
	return y > math.MaxInt-c || x <= y+c
}
