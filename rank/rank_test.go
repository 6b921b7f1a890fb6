package rank_test

import (
	"fmt"
	"slices"
	"testing"

	"warrant/api"
	"warrant/asm"
	"warrant/check"
	"warrant/rank"
)

// The variables: the number 0, the context's length, the registers, the first and the last slot, the first ghost.
const (
	zero   = 0
	ln     = 1
	r0     = 2
	r1     = 3
	r2     = 4
	r3     = 5
	r4     = 6
	r5     = 7
	r6     = 8
	r7     = 9
	r8     = 10
	r9     = 11
	slot0  = 12
	slot31 = 43
	ghost0 = 44
)

func con(i, j, c int) api.Con { return api.Con{I: i, J: j, C: c} }

func cons(cs ...api.Con) []api.Con { return cs }

// ranged says that a variable is from lo to hi.
func ranged(v, lo, hi int) []api.Con { return cons(con(v, 0, hi), con(0, v, -lo)) }

// least says that a variable is no less than a number, most that it is no more, same that two are one.
func least(v, lo int) []api.Con { return cons(con(0, v, -lo)) }

func most(v, hi int) []api.Con { return cons(con(v, 0, hi)) }

func same(v, w int) []api.Con { return cons(con(v, w, 0), con(w, v, 0)) }

// since says that what a loop's rank names is no greater, and no less, than when the run was at its head.
func since(h, a, b int) []api.Con { return cons(con(a, ghost0+2*h, 0), con(ghost0+2*h+1, b, 0)) }

func kind(k int) api.Tag { return api.Tag{Kind: k} }

func num() api.Tag { return kind(api.KindNum) }

func ctx() api.Tag { return kind(api.KindCtx) }

// claim says that some registers and slots hold numbers, and bounds of them.
func claim(nums []int, cs ...[]api.Con) api.Claim {
	c := api.Claim{Cons: slices.Concat(cs...)}
	for _, v := range nums {
		*tagOf(&c, v) = num()
	}
	return c
}

func tagOf(c *api.Claim, v int) *api.Tag {
	if v < slot0 {
		return &c.Regs[v-r0]
	}
	return &c.Stack[v-slot0]
}

func nums(vs ...int) []int { return vs }

func dead() api.Claim { return api.Claim{Dead: true} }

func ranked(head, a, b, k, d int) api.Loop { return api.Loop{Head: head, A: a, B: b, K: k, D: d} }

func loops(l ...api.Loop) []api.Loop { return l }

// pair is a program and a warrant.
type pair struct {
	p api.Program
	d api.Deed
}

// paired is a text, with contexts of 0 to 100 bytes, and a warrant.
func paired(t *testing.T, text string, l []api.Loop, cs ...api.Claim) pair {
	t.Helper()
	return pair{coded(t, text), api.Deed{Loops: l, Claims: cs}}
}

func coded(t *testing.T, text string) api.Program {
	t.Helper()
	l, line, e := asm.Parse(text)
	if e != api.OK {
		t.Fatalf("line %d: %v\n%s", line, e, text)
	}
	return api.Program{Hi: 100, Code: l}
}

// with is the same pair, in memory of its own, with something turned.
func (c pair) with(turn func(c *pair)) pair {
	c = c.copied()
	turn(&c)
	return c
}

func (c pair) copied() pair {
	c.p.Data, c.p.Tables, c.p.Code = slices.Clone(c.p.Data), slices.Clone(c.p.Tables), slices.Clone(c.p.Code)
	c.d.Loops, c.d.Claims = slices.Clone(c.d.Loops), slices.Clone(c.d.Claims)
	for k := range c.d.Claims {
		c.d.Claims[k].Cons = slices.Clone(c.d.Claims[k].Cons)
	}
	return c
}

// by gives a loop another rank; falling, another K and D.
func (c pair) by(h, a, b, k, d int) pair {
	return c.with(func(c *pair) { c.d.Loops[h] = ranked(c.d.Loops[h].Head, a, b, k, d) })
}

func (c pair) falling(h, k, d int) pair {
	return c.by(h, c.d.Loops[h].A, c.d.Loops[h].B, k, d)
}

// more adds bounds to a claim; less takes those of two variables away.
func (c pair) more(k int, cs ...[]api.Con) pair {
	return c.with(func(c *pair) { c.d.Claims[k].Cons = append(c.d.Claims[k].Cons, slices.Concat(cs...)...) })
}

func (c pair) less(k, i, j int) pair {
	return c.with(func(c *pair) {
		c.d.Claims[k].Cons = slices.DeleteFunc(c.d.Claims[k].Cons, func(c api.Con) bool { return c.I == i && c.J == j })
	})
}

// proven is the pair as layer 13 takes it.
func (c pair) proven(t *testing.T) *check.Proven {
	t.Helper()
	v, fault := check.Check(c.p, c.d)
	if v == nil {
		t.Fatalf("%sis not proven: %+v", c.told(), fault)
	}
	return v
}

// want: the pair is proven, and refused with just this fault.
func (c pair) want(t *testing.T, want api.Fault) {
	t.Helper()
	if b, fault := c.held(t); b != nil || fault != want {
		t.Errorf("%sis bounded %t, %+v; want %+v", c.told(), b != nil, fault, want)
	}
}

// wantBounded: the pair is bounded.
func (c pair) wantBounded(t *testing.T) *rank.Bounded {
	t.Helper()
	b, fault := c.held(t)
	if b == nil {
		t.Fatalf("%sis refused: %+v", c.told(), fault)
	}
	return b
}

// wantCounts: the pair is bounded, and has just so many visits and times, and this bound.
func (c pair) wantCounts(t *testing.T, visits, times []int, bound int) {
	t.Helper()
	b := c.wantBounded(t)
	for h := -1; h <= len(visits); h++ {
		if got, want := b.Visits(h), at(visits, h); got != want {
			t.Errorf("%sVisits(%d) %d, want %d", c.told(), h, got, want)
		}
	}
	for k := -1; k <= len(times); k++ {
		if got, want := b.Times(k), at(times, k); got != want {
			t.Errorf("%sTimes(%d) %d, want %d", c.told(), k, got, want)
		}
	}
	if got := b.Bound(); got != bound {
		t.Errorf("%sBound %d, want %d", c.told(), got, bound)
	}
}

func at(l []int, n int) int {
	if n < 0 || n >= len(l) {
		return 0
	}
	return l[n]
}

func counts(l ...int) []int { return l }

func unranked(loop, block, edge int) api.Fault {
	return api.Fault{Class: api.ErrRank, Loop: loop, Block: block, Edge: edge}
}

func unbounded() api.Fault { return api.Fault{Class: api.ErrBound} }

// summing is chapter 13's example: it adds up the bytes of its context.
func summing(t *testing.T) pair {
	t.Helper()
	looping := claim(nums(r0), same(r1, ln), least(r3, 0), cons(con(r3, r1, 0)), most(ln, 100))
	looping.Regs[1], looping.Regs[3] = ctx(), ctx()
	inner := looping
	inner.Cons = slices.Concat(same(r1, ln), least(r3, 0), cons(con(r3, r1, -1)), most(ln, 100), since(0, r1, r3))
	first := claim(nums(r2), ranged(r1, 0, 0), same(r2, ln), ranged(ln, 0, 100))
	first.Regs[1] = ctx()
	return paired(t, "r0 = 0\nr3 = r1\nr1 += r2\ntop: if r3 >= r1 goto out\nr4 = u8 [r3]\nr0 += r4\nr3 += 1\ngoto top\nout: exit",
		loops(ranked(1, r1, r3, 0, 1)), first, looping, inner, claim(nums(r0)))
}

// alone has a loop of one block, with r3 from 1 to 100 at its head, less by 3 each time.
func alone(t *testing.T) pair {
	t.Helper()
	return paired(t, "r0 = 0\nr3 = 100\ntop: r3 -= 3\nif r3 s> 0 goto top\nexit",
		loops(ranked(1, r3, zero, 0, 3)), claim(nil), claim(nums(r0, r3), ranged(r3, 1, 100)), claim(nums(r0)))
}

// TestExamples (P14.1, P14.2, P14.3): every row of the chapter's examples.
func TestExamples(t *testing.T) {
	c := summing(t)
	c.wantCounts(t, counts(101), counts(1, 101, 101, 1), 509)
	c.falling(0, 0, 2).want(t, unranked(0, 2, 0))
	c.falling(0, -1, 1).want(t, unranked(0, 1, -1))
	c.falling(0, 5, 1).wantCounts(t, counts(106), counts(1, 106, 106, 1), 3+106+4*106+1)
	turned := c.by(0, r3, r1, 0, 1).less(2, r1, ghost0).less(2, ghost0+1, r3).more(2, since(0, r3, r1))
	turned.want(t, unranked(0, 1, -1))
	paired(t, "r0 = 0\nexit", nil, claim(nil)).wantCounts(t, nil, counts(1), 2)
	one := alone(t)
	one.wantCounts(t, counts(34), counts(1, 34, 1), 2+2*34+1)
	one.falling(0, 0, 4).want(t, unranked(0, 1, 0))
	one.falling(0, 0, 1).wantCounts(t, counts(101), counts(1, 101, 1), 2+2*101+1)
}

// TestExampleLoop (P14.1): the loop of the last row is one of the chapter's form, with its edge back as the first one.
func TestExampleLoop(t *testing.T) {
	f := alone(t).proven(t).Flow()
	if got := fmt.Sprint(f.Blocks(), f.Loops()); got != "[{0 2 [1]} {2 4 [1 2]} {4 5 []}] [{1 [1] -1}]" {
		t.Error(got)
	}
}

// TestProven (P14.3): the proven program is the one that was handed in.
func TestProven(t *testing.T) {
	for _, c := range []pair{summing(t), alone(t), several(t)} {
		v := c.proven(t)
		b, _ := rank.Check(v)
		if b.Proven() != v {
			t.Errorf("%sis another one", c.told())
		}
	}
}
