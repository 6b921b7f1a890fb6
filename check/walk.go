package check

import (
	"warrant/api"
	"warrant/flow"
	"warrant/jumps"
	"warrant/shape"
	"warrant/step"
)

// walk goes over the blocks, and keeps the shapes that it meets.
type walk struct {
	program api.Program
	ranks   []api.Loop
	blocks  []api.Block
	loops   []api.Around
	claims  []*shape.Shape
	ahead   []*shape.Shape
	onward  [][]*shape.Shape
}

// begun is the walk over a program and a warrant that are well made.
func begun(p api.Program, f *flow.Flow, d api.Deed) *walk {
	w := &walk{program: p, ranks: d.Loops, blocks: f.Blocks(), loops: f.Loops()}
	for _, c := range d.Claims {
		s, _ := shape.From(c) // deed.Check asked for its error
		w.claims = append(w.claims, s)
	}
	w.ahead = make([]*shape.Shape, len(p.Code))
	w.onward = make([][]*shape.Shape, len(w.blocks))
	return w
}

// starts tells whether every beginning of a run is as the first claim says.
func (w *walk) starts() bool {
	s, _ := shape.Start(w.program) // pack.Check asked for its error
	return s.Inside(w.claims[0])
}

// fault is the first one of a block, if there is one.
func (w *walk) fault() api.Fault {
	var fault api.Fault
blocks:
	for k, b := range w.blocks {
		ways := []*shape.Shape{w.entered(k)}
		for i := b.From; i < b.To; i++ {
			if ways[0].Dead() {
				continue blocks // no run comes here, nor to what is behind it
			}
			w.ahead[i] = ways[0]
			var e api.Errno
			if ways, e = behind(w.program, ways[0], w.program.Code[i]); e != api.OK {
				fault = api.Fault{Class: api.ErrUnsafe, Code: e, Block: k, Ins: i}
				break blocks
			}
		}
		w.onward[k] = ways[:len(b.Next)]
		held := w.hand(k, func(edge, goal int, s *shape.Shape) bool {
			if w.arrived(goal, s).Inside(w.claims[goal]) {
				return true
			}
			fault = api.Fault{Class: api.ErrNotInductive, Block: k, Edge: edge, Ins: b.To - 1}
			return false
		})
		if !held {
			break blocks
		}
	}
	return fault
}

// hand hands a block's edges on, each with its goal and the shape on it, till one is refused.
func (w *walk) hand(k int, take func(edge, goal int, s *shape.Shape) bool) bool {
	for edge, goal := range w.blocks[k].Next {
		if !take(edge, goal, w.onward[k][edge]) {
			return false
		}
	}
	return true
}

// behind are the shapes behind an instruction: of a jump that of each edge, of every other one just one.
func behind(p api.Program, s *shape.Shape, i api.Ins) ([]*shape.Shape, api.Errno) {
	if !jumps.Is(i.Op) {
		next, e := step.Do(p, s, i)
		return []*shape.Shape{next}, e
	}
	taken, e := step.Take(p, s, i, true)
	if e != api.OK || i.Op == api.OpJa {
		return []*shape.Shape{taken}, e
	}
	other, e := step.Take(p, s, i, false)
	return []*shape.Shape{taken, other}, e
}
