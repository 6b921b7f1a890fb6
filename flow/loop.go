package flow

import (
	"slices"

	"warrant/api"
)

// heads are the blocks to which back edges lead, rising.
func (f *Flow) heads() []int {
	s := room(len(f.blocks))
	for b, from := range f.blocks {
		for _, to := range from.Next {
			if f.back(b, to) {
				s.add(to)
			}
		}
	}
	return s.list()
}

// body is the loop of a head.
func (f *Flow) body(head int, before [][]int) set[int] {
	s := room(len(f.blocks))
	s.add(head)
	var ways stack[int]
	for _, from := range before[head] {
		if f.back(from, head) && s.add(from) {
			ways.push(from)
		}
	}
	for !ways.empty() {
		for _, from := range before[ways.pop()] {
			if s.add(from) {
				ways.push(from)
			}
		}
	}
	return s
}

// around are the loops of these heads.
func (f *Flow) around(heads []int, before [][]int) []api.Around {
	l := make([]api.Around, len(heads))
	for n, head := range heads {
		l[n] = api.Around{Head: head, Blocks: f.body(head, before).list()}
	}
	for n := range l {
		l[n].Parent = parent(l, n)
	}
	return l
}

// parent is the least of the other loops that hold this one's head.
func parent(l []api.Around, loop int) int {
	least := none
	for n, other := range l {
		if n == loop || !slices.Contains(other.Blocks, l[loop].Head) {
			continue
		}
		if least == none || len(other.Blocks) < len(l[least].Blocks) {
			least = n
		}
	}
	return least
}
