package rank_test

import (
	"math/big"
	"slices"
	"testing"

	"warrant/api"
	"warrant/check"
	"warrant/mach"
	"warrant/rank"
)

// inputs are some that a program takes: contexts of Lo bytes, of Hi, and between, and tables.
func (d dice) inputs(p api.Program) []api.Input {
	var l []api.Input
	for _, n := range []int{p.Lo, p.Hi, p.Lo + d.Intn(p.Hi-p.Lo+1)} {
		in := api.Input{Ctx: make([]byte, n)}
		for _, table := range p.Tables {
			in.Tables = append(in.Tables, make([]byte, table.Rows*table.Wide))
		}
		for _, b := range append(in.Tables, in.Ctx) {
			d.Read(b)
		}
		l = append(l, in)
	}
	return l
}

// run is a run of a bounded program, with what its loops and blocks came to.
type run struct {
	c      pair
	b      *rank.Bounded
	blocks []api.Block
	loops  []api.Around
	most   []*big.Int // U of each loop
	last   []*big.Int // each loop's rank, when the run was at its head last
	there  []int      // how often it was there since it entered
	times  []int
	before int // the block that it comes from
}

func running(c pair, v *check.Proven, b *rank.Bounded) *run {
	r := &run{c: c, b: b, blocks: v.Flow().Blocks(), loops: v.Flow().Loops(), before: -1}
	for h, l := range r.loops {
		k := c.d.Loops[h]
		m := bounds(v.Before(r.blocks[l.Head].From))
		r.most = append(r.most, big.NewInt(int64(m[[2]int{k.A, k.B}]+k.K)))
	}
	r.last = make([]*big.Int, len(r.loops))
	r.there = make([]int, len(r.loops))
	r.times = make([]int, len(r.blocks))
	return r
}

// number is what a variable is in a state.
func number(st api.State, v int) int {
	switch {
	case v == zero:
		return 0
	case v == ln:
		return len(st.Ctx)
	case v < slot0:
		return st.Regs[v-r0].X
	}
	slot := st.Stack[v-slot0]
	n := slot.Ptr.X
	for k, b := range slot.Bytes {
		n |= int(b) << (8 * k)
	}
	return n
}

func (r *run) rankOf(h int, st api.State) *big.Int {
	k := r.c.d.Loops[h]
	n := big.NewInt(int64(number(st, k.A)))
	n.Sub(n, big.NewInt(int64(number(st, k.B))))
	return n.Add(n, big.NewInt(int64(k.K)))
}

// comes: the run is at the first instruction of a block.
func (r *run) comes(t *testing.T, k int, st api.State) {
	t.Helper()
	if r.times[k]++; r.times[k] > r.b.Times(k) {
		t.Fatalf("%sis more than %d times in block %d", r.c.told(), r.b.Times(k), k)
	}
	h := slices.IndexFunc(r.loops, func(l api.Around) bool { return l.Head == k })
	if h < 0 {
		r.before = k
		return
	}
	now := r.rankOf(h, st)
	if now.Sign() < 0 || now.Cmp(r.most[h]) > 0 {
		t.Fatalf("%shas the rank %v at the head of loop %d, at most %v", r.c.told(), now, h, r.most[h])
	}
	if back := slices.Contains(r.loops[h].Blocks, r.before); back {
		if fallen := new(big.Int).Sub(r.last[h], now); fallen.Cmp(big.NewInt(int64(r.c.d.Loops[h].D))) < 0 {
			t.Fatalf("%shas the rank %v at the head of loop %d, behind %v", r.c.told(), now, h, r.last[h])
		}
	} else {
		r.there[h] = 0
	}
	if r.there[h]++; r.there[h] > r.b.Visits(h) {
		t.Fatalf("%sis more than %d times at the head of loop %d", r.c.told(), r.b.Visits(h), h)
	}
	r.last[h], r.before = now, k
}

// goes runs the program till it exits: each coming to a head, and to a block, is as what is bounded tells, and there are no more steps than Bound.
func (r *run) goes(t *testing.T, in api.Input) int {
	t.Helper()
	m, e := mach.New(r.c.p, in)
	if e != api.OK {
		t.Fatalf("%stakes no input: %v", r.c.told(), e)
	}
	for {
		st := m.State()
		if st.Done {
			return st.Steps
		}
		if st.Steps >= r.b.Bound() {
			t.Fatalf("%shas not left after %d steps", r.c.told(), st.Steps)
		}
		if k := slices.IndexFunc(r.blocks, func(b api.Block) bool { return b.From == st.At }); k >= 0 {
			r.comes(t, k, st)
		}
		if e := m.Step(); e != api.OK {
			t.Fatalf("%straps: %v", r.c.told(), e)
		}
	}
}

// TestRuns (P14.4): runs of drawn programs that are bounded, with their ranks as they were found and turned.
func TestRuns(t *testing.T) {
	t.Parallel()
	runs, looped, nested, reached := 0, 0, 0, 0
	for seed := range 150 {
		d := rolling(1000 + seed)
		c := d.grown(t)
		all := []pair{c}
		for range 3 {
			all = append(all, d.turned(c))
		}
		for _, c := range all {
			v, _ := check.Check(c.p, c.d)
			if v == nil {
				continue
			}
			b, _ := rank.Check(v)
			if b == nil {
				continue
			}
			for _, in := range d.inputs(c.p) {
				r := running(c, v, b)
				steps := r.goes(t, in)
				runs++
				for h, n := range r.there {
					l := r.loops[h]
					if r.times[l.Head] > 2 {
						looped++
					}
					if l.Parent >= 0 && r.times[l.Head] > r.times[r.loops[l.Parent].Head] {
						nested++
					}
					if n > 1 && n == b.Visits(h) {
						reached++
					}
				}
				if steps > b.Bound() {
					t.Fatalf("%s%d steps, the bound is %d", c.told(), steps, b.Bound())
				}
			}
		}
	}
	if runs < 500 || looped < 500 || nested < 100 || reached < 50 {
		t.Errorf("%d runs; %d loops went round, %d within others, %d as often as they may", runs, looped, nested, reached)
	}
}

// TestExampleRuns (P14.4): the example, at each length that it takes; at the greatest one there are as many steps as there may be.
func TestExampleRuns(t *testing.T) {
	c := summing(t)
	v := c.proven(t)
	b, _ := rank.Check(v)
	for n := range 101 {
		r := running(c, v, b)
		if steps := r.goes(t, api.Input{Ctx: make([]byte, n)}); steps != 3+5*n+2 {
			t.Errorf("%d bytes: %d steps", n, steps)
		}
		if r.times[1] != n+1 || n == 100 && (r.times[1] != b.Visits(0) || r.times[2]+1 != b.Times(2)) {
			t.Errorf("%d bytes: %v", n, r.times)
		}
	}
}

// TestTight (P14.4): a bound that a run comes to.
func TestTight(t *testing.T) {
	c := alone(t)
	c.d.Claims[1] = claim(nums(r0, r3), ranged(r3, 1, 100))
	b := c.wantBounded(t)
	r := running(c, c.proven(t), b)
	if steps := r.goes(t, api.Input{}); steps != b.Bound() || r.there[0] != b.Visits(0) {
		t.Errorf("%d steps, %d times at the head; the bound is %d, of visits %d", steps, r.there[0], b.Bound(), b.Visits(0))
	}
}

// TestEndless (P14.4): what does not end is not bounded, whatever its ranks are.
func TestEndless(t *testing.T) {
	d := rolling(3)
	for _, text := range []string{"r0 = 0\nr3 = 9\ntop: goto top\nexit", "r0 = 0\nr3 = 9\ntop: r3 -= 1\nr3 += 1\nif r3 s> 0 goto top\nexit", "r0 = 0\nr3 = 9\ntop: r3 ^= 1\nif r0 == 0 goto top\nexit"} {
		head := 0
		for range 300 {
			keep := claim(nums(r0, r3), ranged(r3, among(d, 0, 0, 1), among(d, 9, 15)), ranged(ln, 0, 100))
			c := paired(t, text, loops(ranked(1, among(d, zero, ln, r3), among(d, zero, ln, r3), d.Intn(200)-20, 1+d.Intn(3))), claim(nil, ranged(ln, 0, 100)), keep, claim(nums(r0)))
			if c.p.Code[2].Op == api.OpJa {
				c.p.Code, c.d.Claims = c.p.Code[:3], c.d.Claims[:2]
			}
			if v, _ := check.Check(c.p, c.d); v == nil {
				continue
			}
			b, fault := c.held(t)
			if b != nil || fault.Class != api.ErrRank {
				t.Fatalf("%sis bounded: %+v", c.told(), fault)
			}
			if fault.Edge == 0 {
				head++ // so the rank is bounded there, and does not fall
			}
		}
		if head < 20 {
			t.Errorf("%d of\n%s\nwere refused on the edge back", head, text)
		}
	}
}
