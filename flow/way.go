package flow

import "slices"

// visit is a block that is being walked, and which of its edges is next.
type visit struct{ block, edge int }

// walked are the blocks to which a way leads from the block 0, in reverse postorder.
func (f *Flow) walked() []int {
	var left []int
	var path stack[visit]
	begun := room(len(f.blocks))
	begun.add(0)
	path.push(visit{})
	for !path.empty() {
		now := path.top()
		next := f.blocks[now.block].Next
		if now.edge == len(next) {
			left = append(left, path.pop().block)
			continue
		}
		to := next[now.edge]
		now.edge++
		if begun.add(to) {
			path.push(visit{block: to})
		}
	}
	slices.Reverse(left)
	return left
}

// missed is the lowest block that was not walked.
func (f *Flow) missed() int {
	come := room(len(f.blocks))
	for _, b := range f.order {
		come.add(b)
	}
	for b := range f.blocks {
		if !come.has(b) {
			return b
		}
	}
	return none
}

// dominators are the sets of those that dominate each block: the greatest sets in which, but for the block itself, stands only what dominates all blocks before it.
func (f *Flow) dominators(before [][]int) []set[int] {
	above := make([]set[int], len(f.blocks))
	for b := range above {
		above[b] = room(len(f.blocks))
		for a := range f.blocks {
			above[b].add(a)
		}
	}
	above[0] = room(len(f.blocks))
	above[0].add(0)
	for went := true; went; {
		went = false
		for _, b := range f.order {
			for _, from := range before[b] {
				if above[b].keep(above[from], b) {
					went = true
				}
			}
		}
	}
	return above
}

// back tells whether an edge between these blocks is a back edge.
func (f *Flow) back(from, to int) bool { return f.above[from].has(to) }

// headless is the lowest block from which a way leads to itself by edges that are no back edges.
func (f *Flow) headless() int {
	lowest := none
search:
	for b := range f.blocks {
		come := room(len(f.blocks))
		var ways stack[int]
		ways.push(b)
		for !ways.empty() {
			from := ways.pop()
			for _, to := range f.blocks[from].Next {
				if f.back(from, to) {
					continue
				}
				if to == b {
					lowest = b
					break search
				}
				if come.add(to) {
					ways.push(to)
				}
			}
		}
	}
	return lowest
}
