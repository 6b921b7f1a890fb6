package rank

import (
	"iter"

	"warrant/api"
	"warrant/check"
	"warrant/shape"
)

// look is what is asked of a proven program.
type look struct {
	proven *check.Proven
	blocks []api.Block
	loops  []api.Around
	ranks  []api.Loop
	claims []api.Claim
}

func seen(v *check.Proven) *look {
	f, d := v.Flow(), v.Deed()
	return &look{v, f.Blocks(), f.Loops(), d.Loops, d.Claims}
}

// idle tells whether no run comes to a loop.
func (l *look) idle(h int) bool { return l.claims[l.loops[h].Head].Dead }

// begun is the shape at a loop's head.
func (l *look) begun(h int) *shape.Shape {
	return l.proven.Before(l.blocks[l.loops[h].Head].From)
}

// backs are the back edges of a loop, each as its block and its number there.
func (l *look) backs(h int) iter.Seq2[int, int] {
	return func(yield func(block, edge int) bool) {
		for _, b := range l.loops[h].Blocks {
			for edge, goal := range l.blocks[b].Next {
				if goal == l.loops[h].Head && !yield(b, edge) {
					return
				}
			}
		}
	}
}

// fault is the first one of a loop, if there is one.
func (l *look) fault() api.Fault {
	for h := range l.loops {
		if l.idle(h) {
			continue
		}
		if fault := l.faultOf(h); fault.Class != api.OK {
			return fault
		}
	}
	return api.Fault{}
}

// faultOf is the first one of a loop that runs may come to: at its head, or on a way back there.
func (l *look) faultOf(h int) api.Fault {
	if !limited(l.begun(h), l.ranks[h]) {
		return api.Fault{Class: api.ErrRank, Loop: h, Block: l.loops[h].Head, Edge: -1}
	}
	for block, edge := range l.backs(h) {
		s := l.proven.Post(block, edge)
		if !s.Dead() && !falls(s, h, l.ranks[h]) {
			return api.Fault{Class: api.ErrRank, Loop: h, Block: block, Edge: edge}
		}
	}
	return api.Fault{}
}

// limited tells whether a rank is never below 0, and has a greatest number.
func limited(s *shape.Shape, r api.Loop) bool {
	low, high := s.Bound(r.B, r.A), s.Bound(r.A, r.B)
	return low.Is && low.C <= r.K && high.Is
}

// falls tells whether the rank of the loop h is less, by enough, than the ghosts keep it.
func falls(s *shape.Shape, h int, r api.Loop) bool {
	first, second := api.VarGhost+2*h, api.VarGhost+2*h+1
	a, b := s.Bound(r.A, first), s.Bound(second, r.B)
	return a.Is && b.Is && a.C+b.C <= -r.D
}
