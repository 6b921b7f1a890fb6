package flow

import (
	"warrant/api"
	"warrant/jumps"
)

// astray tells the first jump that goes to no instruction; or the last instruction, if the run goes on behind it.
func astray(l []api.Ins, goals []int) (at int, e api.Errno) {
	for n, i := range l {
		if jumps.Is(i.Op) && goals[n] == jumps.Nowhere {
			return n, api.ErrTarget
		}
	}
	if last := len(l) - 1; goesOn(l[last].Op) {
		return last, api.ErrEnd
	}
	return 0, api.OK
}

// goesOn tells whether the run may go on at the next instruction.
func goesOn(op int) bool { return op != api.OpJa && op != api.OpExit }

// leaders are the instructions with which a block begins.
func leaders(l []api.Ins, goals []int) set[int] {
	s := room(len(l) + 1)
	s.add(0)
	for n, i := range l {
		if jumps.Is(i.Op) {
			s.add(goals[n])
		}
		if jumps.Is(i.Op) || i.Op == api.OpExit {
			s.add(n + 1)
		}
	}
	return s
}

// cut finds the blocks, without their edges.
func (f *Flow) cut(l []api.Ins, goals []int) {
	begins := leaders(l, goals)
	f.in = make([]int, len(l))
	for n := range l {
		if begins.has(n) {
			f.blocks = append(f.blocks, api.Block{From: n})
		}
		last := len(f.blocks) - 1
		f.blocks[last].To = n + 1
		f.in[n] = last
	}
}

// link finds the blocks' edges.
func (f *Flow) link(l []api.Ins, goals []int) {
	for b := range f.blocks {
		last := f.blocks[b].To - 1
		op := l[last].Op
		var next []int
		if jumps.Is(op) {
			next = append(next, f.in[goals[last]])
		}
		if goesOn(op) {
			next = append(next, b+1)
		}
		f.blocks[b].Next = next
	}
}

// before are the blocks from which edges lead to each block.
func (f *Flow) before() [][]int {
	l := make([][]int, len(f.blocks))
	for b, from := range f.blocks {
		for _, to := range from.Next {
			l[to] = append(l[to], b)
		}
	}
	return l
}
