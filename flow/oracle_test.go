package flow_test

import (
	"slices"

	"warrant/api"
	"warrant/code"
)

// The chapter's definitions once more, word by word and as plainly as can be, for small programs: what the package answers is held against these.

// answers are what Make and the methods tell of a program.
type answers struct {
	at     int
	e      api.Errno
	blocks []api.Block
	order  []int
	loops  []api.Around
	above  [][]bool // above[a][b]: a dominates b
}

func conditional(op int) bool { return op >= api.OpJeq && op <= api.OpJset }

func jump(op int) bool { return op == api.OpJa || conditional(op) }

// units are where each instruction begins, and the one behind the last.
func units(l []api.Ins) []int {
	u := []int{0}
	for _, i := range l {
		long := 0
		if i.Op == api.OpWide || i.Op == api.OpData {
			long = 1
		}
		u = append(u, u[len(u)-1]+1+long)
	}
	return u
}

// goal is the instruction to which a jump goes; -1: to none (P4.1).
func goal(l []api.Ins, n int) int {
	u := units(l)
	to := u[n] + 1 + l[n].Off
	if l[n].Op == api.OpJa && l[n].Narrow {
		to = u[n] + 1 + l[n].Imm
	}
	for m := range l {
		if u[m] == to {
			return m
		}
	}
	return -1
}

// reckoned is what the chapter says of a program.
func reckoned(l []api.Ins) answers {
	if at, e := code.Check(l); e != api.OK {
		return answers{at: at, e: e}
	}
	if len(l) == 0 {
		return answers{e: api.ErrNoIns}
	}
	for n, i := range l {
		if jump(i.Op) && goal(l, n) == -1 {
			return answers{at: n, e: api.ErrTarget}
		}
	}
	if op := l[len(l)-1].Op; op != api.OpJa && op != api.OpExit {
		return answers{at: len(l) - 1, e: api.ErrEnd}
	}
	a := answers{blocks: linked(l, parts(l))}
	b, e := a.relate()
	if e != api.OK {
		return answers{at: a.blocks[b].From, e: e}
	}
	return a
}

// relate adds what the edges make of the blocks; or tells the block that is refused.
func (a *answers) relate() (int, api.Errno) {
	if len(a.blocks) > 512 {
		return 512, api.ErrBlocks
	}
	for b := range a.blocks {
		if !a.way(0, b, -1) {
			return b, api.ErrReach
		}
	}
	a.above = a.dominators()
	for b := range a.blocks {
		if a.cycled(b) {
			return b, api.ErrShape
		}
	}
	a.loops = a.around()
	if len(a.loops) > 8 {
		return a.loops[8].Head, api.ErrLoops
	}
	left := a.walked(0, make([]bool, len(a.blocks)))
	for n := range left {
		a.order = append(a.order, left[len(left)-1-n])
	}
	return 0, api.OK
}

// parts are the blocks without their edges (P4.2).
func parts(l []api.Ins) []api.Block {
	leader := make([]bool, len(l)+1)
	leader[0], leader[len(l)] = true, true
	for n, i := range l {
		if jump(i.Op) {
			leader[goal(l, n)] = true
		}
		if jump(i.Op) || i.Op == api.OpExit {
			leader[n+1] = true
		}
	}
	var blocks []api.Block
	for from := 0; from < len(l); {
		to := from + 1
		for !leader[to] {
			to++
		}
		blocks = append(blocks, api.Block{From: from, To: to})
		from = to
	}
	return blocks
}

func within(blocks []api.Block, ins int) int {
	return slices.IndexFunc(blocks, func(b api.Block) bool { return b.From <= ins && ins < b.To })
}

// linked are the blocks with their edges (P4.3).
func linked(l []api.Ins, blocks []api.Block) []api.Block {
	for b := range blocks {
		last := blocks[b].To - 1
		switch op := l[last].Op; {
		case op == api.OpExit:
		case op == api.OpJa:
			blocks[b].Next = []int{within(blocks, goal(l, last))}
		case conditional(op):
			blocks[b].Next = []int{within(blocks, goal(l, last)), b + 1}
		default:
			blocks[b].Next = []int{b + 1}
		}
	}
	return blocks
}

// way tells whether a way leads from a block to a block that does not go through the third one (P4.4).
func (a *answers) way(from, to, but int) bool {
	gone := make([]bool, len(a.blocks))
	var try func(now int) bool
	try = func(now int) bool {
		if now == but || gone[now] {
			return false
		}
		gone[now] = true
		return now == to || slices.ContainsFunc(a.blocks[now].Next, try)
	}
	return try(from)
}

func (a *answers) dominators() [][]bool {
	above := make([][]bool, len(a.blocks))
	for n := range above {
		above[n] = make([]bool, len(a.blocks))
		for b := range a.blocks {
			above[n][b] = !a.way(0, b, n)
		}
	}
	return above
}

// cycled tells whether a way of one edge or more leads from a block to itself by edges that are no back edges.
func (a *answers) cycled(b int) bool {
	come := make([]bool, len(a.blocks))
	for more, first := true, true; more; first = false {
		more = false
		for from := range a.blocks {
			if !come[from] && !(first && from == b) {
				continue
			}
			for _, to := range a.blocks[from].Next {
				if !a.above[to][from] && !come[to] {
					come[to], more = true, true
				}
			}
		}
	}
	return come[b]
}

// around are the loops (P4.5, P4.8).
func (a *answers) around() []api.Around {
	var l []api.Around
	var holds [][]bool
	for head := range a.blocks {
		if in := a.body(head); in != nil {
			var list []int
			for b := range in {
				if in[b] {
					list = append(list, b)
				}
			}
			l = append(l, api.Around{Head: head, Blocks: list, Parent: -1})
			holds = append(holds, in)
		}
	}
	for n := range l {
		for m := range l {
			if m == n || !holds[m][l[n].Head] {
				continue
			}
			if p := l[n].Parent; p == -1 || len(l[m].Blocks) < len(l[p].Blocks) {
				l[n].Parent = m
			}
		}
	}
	return l
}

// body is the loop of a block; nil, if it is no head.
func (a *answers) body(head int) []bool {
	var in []bool
	for b, from := range a.blocks {
		if a.above[head][b] && slices.Contains(from.Next, head) {
			if in == nil {
				in = make([]bool, len(a.blocks))
			}
			in[head], in[b] = true, true
		}
	}
	for more := true; more; {
		more = false
		for b, from := range a.blocks {
			for _, to := range from.Next {
				if in != nil && in[to] && to != head && !in[b] {
					in[b], more = true, true
				}
			}
		}
	}
	return in
}

// walked are the blocks in the order in which they are left (P4.9).
func (a *answers) walked(b int, begun []bool) []int {
	begun[b] = true
	var left []int
	for _, to := range a.blocks[b].Next {
		if !begun[to] {
			left = append(left, a.walked(to, begun)...)
		}
	}
	return append(left, b)
}
