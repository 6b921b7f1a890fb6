package rank_test

import (
	"cmp"
	"math/big"
	"slices"
	"testing"

	"warrant/api"
	"warrant/check"
	"warrant/rank"
	"warrant/shape"
)

// The chapter's words once more, by other means: all faults of all loops are gathered, and the one that is to be told first is taken; bounds are looked for in lists; what is counted are whole numbers of any size, held down at the end.

// reckoned is what the words come to of a proven program.
type reckoned struct {
	fault  api.Fault
	visits []int
	times  []int
	bound  int
}

// twin is a proven program by the chapter's words.
type twin struct {
	v      *check.Proven
	d      api.Deed
	blocks []api.Block
	loops  []api.Around
}

func reckon(v *check.Proven) reckoned {
	f := v.Flow()
	o := &twin{v, v.Deed(), f.Blocks(), f.Loops()}
	if all := o.faults(); len(all) > 0 {
		return reckoned{fault: slices.MinFunc(all, sooner)}
	}
	r := o.counted()
	if r.bound > api.MaxSteps {
		return reckoned{fault: api.Fault{Class: api.ErrBound}}
	}
	return r
}

// sooner orders faults: by loops, the head's ahead of those of the edges back, these by their blocks and edges.
func sooner(a, b api.Fault) int {
	head := func(f api.Fault) int {
		if f.Edge < 0 {
			return 0
		}
		return 1
	}
	return cmp.Or(cmp.Compare(a.Loop, b.Loop), cmp.Compare(head(a), head(b)), cmp.Compare(a.Block, b.Block), cmp.Compare(a.Edge, b.Edge))
}

// bounds are m(i, j) of a shape, of all that there are.
func bounds(s *shape.Shape) map[[2]int]int {
	m := map[[2]int]int{}
	for v := range api.Vars {
		m[[2]int{v, v}] = 0
	}
	for _, c := range s.Cons() {
		m[[2]int{c.I, c.J}] = c.C
	}
	return m
}

// head are the bounds ahead of a loop's first instruction.
func (o *twin) head(h int) map[[2]int]int {
	return bounds(o.v.Before(o.blocks[o.loops[h].Head].From))
}

func (o *twin) reached(k int) bool { return !o.v.Before(o.blocks[k].From).Dead() }

// faults are all of the loops that are not passed over.
func (o *twin) faults() []api.Fault {
	var all []api.Fault
	for h, l := range o.loops {
		if !o.reached(l.Head) {
			continue
		}
		r, m := o.d.Loops[h], o.head(h)
		low, isLow := m[[2]int{r.B, r.A}]
		if _, isHigh := m[[2]int{r.A, r.B}]; !isLow || !isHigh || low > r.K {
			all = append(all, api.Fault{Class: api.ErrRank, Loop: h, Block: l.Head, Edge: -1})
		}
		for k, b := range o.blocks {
			for edge, goal := range b.Next {
				if goal == l.Head && o.v.Flow().Dominates(goal, k) && !o.falls(h, k, edge) {
					all = append(all, api.Fault{Class: api.ErrRank, Loop: h, Block: k, Edge: edge})
				}
			}
		}
	}
	return all
}

// falls tells whether an edge is dead, or the rank of the loop h has fallen there.
func (o *twin) falls(h, k, edge int) bool {
	s := o.v.Post(k, edge)
	if s.Dead() {
		return true
	}
	r, m := o.d.Loops[h], bounds(s)
	a, isA := m[[2]int{r.A, 44 + 2*h}]
	b, isB := m[[2]int{45 + 2*h, r.B}]
	return isA && isB && a+b <= -r.D
}

// heldDown is a number, or Many, if it is above that.
func heldDown(n *big.Int) *big.Int {
	if many := big.NewInt(api.MaxSteps + 1); n.Cmp(many) > 0 {
		return many
	}
	return n
}

// counted are the visits, the times and the bound.
func (o *twin) counted() reckoned {
	var r reckoned
	var visits []*big.Int
	for h, l := range o.loops {
		n := new(big.Int)
		if o.reached(l.Head) {
			rank := o.d.Loops[h]
			n.Add(big.NewInt(int64(o.head(h)[[2]int{rank.A, rank.B}])), big.NewInt(int64(rank.K)))
			if n.Sign() < 0 {
				n.SetInt64(0)
			} else {
				n.Div(n, big.NewInt(int64(rank.D)))
				n.Add(n, big.NewInt(1))
			}
		}
		visits = append(visits, heldDown(n))
		r.visits = append(r.visits, int(heldDown(n).Int64()))
	}
	sum := new(big.Int)
	for k, b := range o.blocks {
		n := big.NewInt(1)
		if !o.reached(k) {
			n.SetInt64(0)
		}
		for h, l := range o.loops {
			if slices.Contains(l.Blocks, k) {
				n.Mul(n, visits[h])
			}
		}
		n = heldDown(n)
		r.times = append(r.times, int(n.Int64()))
		sum.Add(sum, n.Mul(n, big.NewInt(int64(b.To-b.From))))
	}
	r.bound = int(heldDown(sum).Int64())
	return r
}

// tells whether what is bounded tells what the words come to, beyond all ends too.
func (r reckoned) tells(b *rank.Bounded) bool {
	for h := -2; h < len(r.visits)+2; h++ {
		if b.Visits(h) != at(r.visits, h) {
			return false
		}
	}
	for k := -2; k < len(r.times)+2; k++ {
		if b.Times(k) != at(r.times, k) {
			return false
		}
	}
	return b.Bound() == r.bound
}

// held answers a pair that is proven, and holds the answer against the chapter's words.
func (c pair) held(t *testing.T) (*rank.Bounded, api.Fault) {
	t.Helper()
	v := c.proven(t)
	b, fault := rank.Check(v)
	want := reckon(v)
	if fault != want.fault || (b == nil) != (fault != api.Fault{}) {
		t.Fatalf("%sis bounded %t, %+v; the chapter's words have %+v", c.told(), b != nil, fault, want.fault)
	}
	if b != nil && (!want.tells(b) || b.Proven() != v) {
		t.Fatalf("%shas the bound %d; the chapter's words have %+v", c.told(), b.Bound(), want)
	}
	return b, fault
}
