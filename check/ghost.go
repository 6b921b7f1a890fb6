package check

import (
	"slices"

	"warrant/api"
	"warrant/shape"
	"warrant/zone"
)

// ghosts are the two variables that keep what a loop's rank names.
func ghosts(h int) (first, second int) {
	return api.VarGhost + 2*h, api.VarGhost + 2*h + 1
}

// entered is the shape ahead of a block's first instruction: of a head its loop's ghosts are set.
func (w *walk) entered(k int) *shape.Shape {
	for h, l := range w.loops {
		if l.Head == k {
			return marked(w.claims[k], h, w.ranks[h])
		}
	}
	return w.claims[k]
}

// marked is a shape in which the ghosts of the loop h were set.
func marked(s *shape.Shape, h int, rank api.Loop) *shape.Shape {
	first, second := ghosts(h)
	z := s.Forget(first, second)
	if valued(s, rank.A) {
		z, _ = z.Assign(first, rank.A, 0)
	}
	if valued(s, rank.B) {
		z, _ = z.Assign(second, rank.B, 0)
	}
	return over(s, z)
}

// valued tells whether a variable that a rank may name has a value in a shape.
func valued(s *shape.Shape, v int) bool {
	kind := s.Tag(v).Kind
	return v < api.VarReg || api.KindNum <= kind && kind <= api.KindRow
}

// arrived is the shape of an edge at its goal: the ghosts of a loop that is left, or that comes to its head, are forgotten.
func (w *walk) arrived(goal int, s *shape.Shape) *shape.Shape {
	var gone []int
	for h, l := range w.loops {
		if l.Head == goal || !slices.Contains(l.Blocks, goal) {
			first, second := ghosts(h)
			gone = append(gone, first, second)
		}
	}
	return over(s, s.Forget(gone...))
}

// over is a shape of the same tags over another zone.
func over(s *shape.Shape, z *zone.Zone) *shape.Shape {
	var regs [10]api.Tag
	for i := range regs {
		regs[i] = s.Tag(api.VarReg + i)
	}
	var stack [api.Slots]api.Tag
	for i := range stack {
		stack[i] = s.Tag(api.VarSlot + i)
	}
	made, _ := shape.Make(regs, stack, z) // nothing was put in that has no value
	return made
}
