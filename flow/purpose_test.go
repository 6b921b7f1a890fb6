package flow_test

import (
	"math/rand"
	"slices"
	"testing"

	"warrant/api"
	"warrant/flow"
)

// purposes: what the chapter says that blocks and loops are for (P4.10 to P4.13), of a program that is taken.
func purposes(t *testing.T, r *rand.Rand, l []api.Ins) {
	t.Helper()
	f := made(t, l)
	for _, fault := range []string{entries(l, f), order(f), gates(f), nests(f), rounds(r, f)} {
		if fault != "" {
			t.Errorf("of%s: %s", told(l), fault)
		}
	}
}

// behind are the instructions that the run may do next, of a conditional jump the one that it leads to first.
func behind(l []api.Ins, n int) []int {
	switch op := l[n].Op; {
	case op == api.OpExit:
		return nil
	case op == api.OpJa:
		return []int{goal(l, n)}
	case conditional(op):
		return []int{goal(l, n), n + 1}
	}
	return []int{n + 1}
}

// entries (P4.10): a step leads on within a block, or from its last instruction to the first one of the block of that edge.
func entries(l []api.Ins, f *flow.Flow) string {
	blocks := f.Blocks()
	for n := range l {
		in := f.Block(n)
		for k, next := range behind(l, n) {
			if n < blocks[in].To-1 && next == n+1 && f.Block(next) == in {
				continue
			}
			if n != blocks[in].To-1 || blocks[in].Next[k] != f.Block(next) || blocks[f.Block(next)].From != next {
				return "a block is entered, or left, in its midst"
			}
		}
	}
	return ""
}

// order (P4.11): each block stands in it once, and an edge leads to a later one, unless it is a back edge.
func order(f *flow.Flow) string {
	blocks, at := f.Blocks(), f.Order()
	if len(at) != len(blocks) || at[0] != 0 {
		return "the order does not hold each block once, 0 first"
	}
	for b, from := range blocks {
		for _, to := range from.Next {
			later := slices.Index(at, to) > slices.Index(at, b)
			if later == f.Dominates(to, b) {
				return "an edge leads the wrong way in the order"
			}
		}
	}
	return ""
}

// gates (P4.12): a loop is entered at its head alone, which dominates it.
func gates(f *flow.Flow) string {
	for _, l := range f.Loops() {
		for b, from := range f.Blocks() {
			in := slices.Contains(l.Blocks, b)
			if in && !f.Dominates(l.Head, b) {
				return "a head does not dominate its loop"
			}
			for _, to := range from.Next {
				if !in && slices.Contains(l.Blocks, to) && to != l.Head {
					return "a loop is entered beside its head"
				}
			}
		}
	}
	return ""
}

// shared is how many blocks two loops have in common.
func shared(a, b api.Around) int {
	n := 0
	for _, block := range a.Blocks {
		if slices.Contains(b.Blocks, block) {
			n++
		}
	}
	return n
}

// nests (P4.12): of two loops one holds the other, or they have nothing in common; a Parent holds its child.
func nests(f *flow.Flow) string {
	loops := f.Loops()
	for n, a := range loops {
		if !slices.IsSorted(a.Blocks) || !slices.Contains(a.Blocks, a.Head) || n > 0 && loops[n-1].Head >= a.Head {
			return "loops, or their blocks, do not rise"
		}
		if a.Parent != -1 && (a.Parent == n || shared(loops[a.Parent], a) != len(a.Blocks)) {
			return "a Parent does not hold its child"
		}
		for m, b := range loops {
			if common := shared(a, b); common != 0 && common != len(a.Blocks) && common != len(b.Blocks) {
				return "two loops cross"
			}
			if m != n && a.Parent == -1 && slices.Contains(b.Blocks, a.Head) {
				return "a loop has no Parent and lies in one"
			}
		}
	}
	return ""
}

// rounds (P4.13): each way that comes back to where it began goes through the head of a loop that holds it.
func rounds(r *rand.Rand, f *flow.Flow) string {
	blocks, loops := f.Blocks(), f.Loops()
	for range 5 {
		way := []int{0}
		for len(way) < 40 {
			next := blocks[way[len(way)-1]].Next
			if len(next) == 0 {
				break
			}
			way = append(way, next[r.Intn(len(next))])
		}
		for i := range way {
			for j := i + 1; j < len(way); j++ {
				if way[i] == way[j] && !slices.ContainsFunc(loops, func(l api.Around) bool { return holds(l, way[i:j]) }) {
					return "a way comes back and lies in no loop"
				}
			}
		}
	}
	return ""
}

// holds tells whether a loop holds these blocks, and its head is one of them.
func holds(l api.Around, way []int) bool {
	for _, b := range way {
		if !slices.Contains(l.Blocks, b) {
			return false
		}
	}
	return slices.Contains(way, l.Head)
}

// TestPurposes (P4.10 to P4.13): of whatever programs are taken.
func TestPurposes(t *testing.T) {
	r := rand.New(rand.NewSource(413))
	taken := 0
	for range 20000 {
		l := aimed(r, 2+r.Intn(12))
		if _, _, e := flow.Make(l); e == api.OK {
			taken++
			purposes(t, r, l)
		}
		if t.Failed() {
			return
		}
	}
	if taken < 2000 {
		t.Errorf("only %d programs were taken", taken)
	}
	purposes(t, r, nested(api.MaxLoops))
	purposes(t, r, append(times(api.MaxBlocks-1, jeq(0)), exit))
}
