package rank_test

import (
	"math"
	"reflect"
	"slices"
	"sync"
	"testing"

	"warrant/api"
	"warrant/check"
	"warrant/rank"
)

// seen is all that a proven program tells.
type seen struct {
	Program api.Program
	Deed    api.Deed
	Blocks  []api.Block
	Loops   []api.Around
	Shapes  []api.Claim
}

func look(v *check.Proven) seen {
	s := seen{v.Program(), v.Deed(), v.Flow().Blocks(), v.Flow().Loops(), nil}
	for i := range s.Program.Code {
		s.Shapes = append(s.Shapes, v.Before(i).Claim())
	}
	for k, b := range s.Blocks {
		for edge := range b.Next {
			s.Shapes = append(s.Shapes, v.Post(k, edge).Claim())
		}
	}
	return s
}

// numbers are all that a bounded program tells.
type numbers struct {
	visits, times [600]int
	bound         int
}

func told(b *rank.Bounded) numbers {
	var n numbers
	for k := range n.visits {
		n.visits[k], n.times[k] = b.Visits(k-40), b.Times(k-40)
	}
	n.bound = b.Bound()
	return n
}

// some are pairs of all sorts, bounded and refused.
func some(t *testing.T) []pair {
	t.Helper()
	all := []pair{summing(t), alone(t), nested(t), skipped(t), several(t), bypassed(t), deep(t, 100)}
	for _, f := range flaws() {
		all = append(all, several(t).with(f.turn))
	}
	for seed := range 10 {
		d := rolling(3000 + seed)
		c := d.grown(t)
		all = append(all, c, d.turned(c))
	}
	return slices.DeleteFunc(all, func(c pair) bool {
		v, _ := check.Check(c.p, c.d)
		return v == nil
	})
}

// TestHandedIn (R3, R6): what is proven tells the same as before, whether it is bounded or refused.
func TestHandedIn(t *testing.T) {
	for _, c := range some(t) {
		v := c.proven(t)
		before := look(v)
		b, _ := rank.Check(v)
		if b != nil {
			told(b)
		}
		if !reflect.DeepEqual(look(v), before) {
			t.Fatalf("%stells something else", c.told())
		}
	}
}

// TestAskedTwice (R4, R6): the same program has the same answer each time, whatever was asked between; an answer stays as it is.
func TestAskedTwice(t *testing.T) {
	all := some(t)
	var proven []*check.Proven
	var first []*rank.Bounded
	var faults []api.Fault
	var tells []numbers
	for _, c := range all {
		v := c.proven(t)
		b, fault := rank.Check(v)
		proven, first, faults = append(proven, v), append(first, b), append(faults, fault)
		tells = append(tells, numbers{})
		if b != nil {
			tells[len(tells)-1] = told(b)
		}
	}
	for n, v := range proven {
		b, fault := rank.Check(v)
		again, other := rank.Check(all[n].proven(t))
		if fault != faults[n] || other != faults[n] || (b == nil) != (first[n] == nil) || (again == nil) != (b == nil) {
			t.Fatalf("%sis answered otherwise", all[n].told())
		}
		if b != nil && (told(b) != tells[n] || told(again) != tells[n] || told(first[n]) != tells[n] || first[n].Proven() != v) {
			t.Fatalf("%stells something else", all[n].told())
		}
	}
}

// TestSideBySide (R4, R6): many may ask at a time, of one proven program and of one that is bounded, and each is answered the same.
func TestSideBySide(t *testing.T) {
	all := some(t)
	var proven []*check.Proven
	var faults []api.Fault
	for _, c := range all {
		v := c.proven(t)
		_, fault := rank.Check(v)
		proven, faults = append(proven, v), append(faults, fault)
	}
	one := nested(t).wantBounded(t)
	want := told(one)
	wrong := make([]bool, 6)
	var group sync.WaitGroup
	for n := range wrong {
		group.Go(func() {
			for k := range proven {
				k = (k + n) % len(proven)
				_, fault := rank.Check(proven[k])
				wrong[n] = wrong[n] || fault != faults[k] || told(one) != want
			}
		})
	}
	group.Wait()
	if slices.Contains(wrong, true) {
		t.Error("calls side by side answer otherwise")
	}
}

// TestAnything (R1, R5): ranks of all numbers that a warrant may have; places of all numbers.
func TestAnything(t *testing.T) {
	d := rolling(5)
	met := map[api.Errno]int{}
	for _, base := range []pair{summing(t), alone(t), nested(t), several(t), bypassed(t), meeting(t)} {
		for range 150 {
			c := base.copied()
			for h := range c.d.Loops {
				l := &c.d.Loops[h]
				if d.one(3) {
					l.A, l.B = d.Intn(44), d.Intn(44)
				}
				if d.one(3) {
					l.A, l.B = among(d, zero, ln, r3, r8, 43), among(d, zero, ln, r4, r9, 43)
				}
				if d.one(2) {
					l.K = among(d, -api.MaxConst, -1, 0, 1, 1<<31, 1<<32, 1<<33, api.MaxConst)
				}
				if d.one(2) {
					l.D = among(d, 1, 2, 3, 1<<32, api.MaxConst)
				}
			}
			if v, _ := check.Check(c.p, c.d); v == nil {
				continue
			}
			b, fault := c.held(t)
			met[fault.Class]++
			if b == nil {
				continue
			}
			for _, n := range []int{math.MinInt, math.MinInt + 1, -1 << 32, -1, 600, 1 << 32, math.MaxInt - 1, math.MaxInt} {
				if b.Visits(n) != 0 || b.Times(n) != 0 {
					t.Fatalf("%sof %d: %d visits, %d times", c.told(), n, b.Visits(n), b.Times(n))
				}
			}
		}
	}
	for e, n := range map[api.Errno]int{api.OK: 20, api.ErrRank: 100, api.ErrBound: 10} {
		if met[e] < n {
			t.Errorf("%v was met %d times", e, met[e])
		}
	}
}

// TestMost (R1, P14.3): as many blocks as there may be, and as many instructions.
func TestMost(t *testing.T) {
	c := pair{p: api.Program{Hi: api.MaxCtx}}
	c.p.Code = []api.Ins{{Op: api.OpMov, Dst: 0}, {Op: api.OpMov, Dst: 3, Imm: 100}}
	c.d.Claims = []api.Claim{claim(nil)}
	for range api.MaxBlocks - 2 {
		for len(c.p.Code)%8 != 0 {
			c.p.Code = append(c.p.Code, api.Ins{Op: api.OpMov, Dst: 5})
		}
		c.p.Code = append(c.p.Code, api.Ins{Op: api.OpJeq, Dst: 0, Imm: 7})
		c.d.Claims = append(c.d.Claims, claim(nums(r0, r3), ranged(r3, 1, 100)))
	}
	first := 9 // the head, behind the first jump
	for len(c.p.Code) < api.MaxIns-3 {
		c.p.Code = append(c.p.Code, api.Ins{Op: api.OpMov, Dst: 5})
	}
	at := len(c.p.Code) + 1
	c.p.Code = append(c.p.Code, api.Ins{Op: api.OpSub, Dst: 3, Imm: 1}, api.Ins{Op: api.OpJsgt, Dst: 3, Off: first - at - 1}, api.Ins{Op: api.OpExit})
	for k := 1; k < len(c.d.Claims); k++ {
		if k > 1 {
			c.d.Claims[k].Cons = append(slices.Clone(c.d.Claims[k].Cons), since(0, r3, zero)...)
		}
	}
	c.d.Claims = append(c.d.Claims, claim(nums(r0)))
	c.d.Loops = loops(ranked(1, r3, zero, -1, 1))
	b := c.wantBounded(t)
	if got, want := b.Bound(), 9+100*(api.MaxIns-10)+1; got != want || len(c.p.Code) != api.MaxIns || b.Times(api.MaxBlocks-2) != 100 || b.Times(api.MaxBlocks-1) != 1 {
		t.Errorf("%d instructions, the bound %d, want %d", len(c.p.Code), got, want)
	}
	c.falling(0, -1, 2).want(t, unranked(0, api.MaxBlocks-2, 0))
	c.falling(0, 1<<20-101, 1).wantBounded(t)
	c.falling(0, 1<<21, 1).want(t, unbounded())
}
