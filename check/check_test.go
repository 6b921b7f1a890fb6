package check_test

import (
	"fmt"
	"slices"
	"testing"

	"warrant/api"
	"warrant/asm"
	"warrant/check"
)

// The variables: the context's length, the registers, the first and the last slot, the first ghost.
const (
	ln     = 1
	r0     = 2
	r1     = 3
	r2     = 4
	r3     = 5
	r4     = 6
	r5     = 7
	r6     = 8
	r7     = 9
	slot0  = 12
	slot31 = 43
	ghost0 = 44
)

func con(i, j, c int) api.Con { return api.Con{I: i, J: j, C: c} }

func cons(cs ...api.Con) []api.Con { return cs }

// ranged says that a variable is from lo to hi.
func ranged(v, lo, hi int) []api.Con { return cons(con(v, 0, hi), con(0, v, -lo)) }

// exactly says that a variable is a number; same, that two are one; atMost, that the first is not above the second.
func exactly(v, n int) []api.Con { return ranged(v, n, n) }

func same(v, w int) []api.Con { return cons(con(v, w, 0), con(w, v, 0)) }

func atMost(v, w int) []api.Con { return cons(con(v, w, 0)) }

func kind(k int) api.Tag { return api.Tag{Kind: k} }

func num() api.Tag { return kind(api.KindNum) }

func ctx() api.Tag { return kind(api.KindCtx) }

func row(table int) api.Tag { return api.Tag{Kind: api.KindRow, Table: table} }

func maybe(table int) api.Tag { return api.Tag{Kind: api.KindMaybe, Table: table} }

func mask(bits int) api.Tag { return api.Tag{Mask: bits} }

// tags are of registers and slots, by their variables; of all others zero.
type tags map[int]api.Tag

// and are some tags and others beside.
func (l tags) and(more tags) tags {
	all := tags{}
	for _, some := range []tags{l, more} {
		for v, t := range some {
			all[v] = t
		}
	}
	return all
}

func claim(l tags, cs ...[]api.Con) api.Claim {
	c := api.Claim{Cons: slices.Concat(cs...)}
	for v, t := range l {
		if v < slot0 {
			c.Regs[v-r0] = t
		} else {
			c.Stack[v-slot0] = t
		}
	}
	return c
}

func dead() api.Claim { return api.Claim{Dead: true} }

func rank(head, a, b, k, d int) api.Loop { return api.Loop{Head: head, A: a, B: b, K: k, D: d} }

func loops(l ...api.Loop) []api.Loop { return l }

// pair is a program and a warrant.
type pair struct {
	p api.Program
	d api.Deed
}

// paired is a text, with contexts of 0 to 100 bytes, and a warrant.
func paired(t *testing.T, text string, l []api.Loop, cs ...api.Claim) pair {
	t.Helper()
	return pair{coded(t, text), api.Deed{Loops: l, Claims: cs}}
}

func coded(t *testing.T, text string) api.Program {
	t.Helper()
	l, line, e := asm.Parse(text)
	if e != api.OK {
		t.Fatalf("line %d: %v\n%s", line, e, text)
	}
	return api.Program{Hi: 100, Code: l}
}

// with is the same pair, in memory of its own, with something turned.
func (c pair) with(turn func(c *pair)) pair {
	c = c.copied()
	turn(&c)
	return c
}

func (c pair) copied() pair {
	c.p.Data, c.p.Tables, c.p.Code = slices.Clone(c.p.Data), slices.Clone(c.p.Tables), slices.Clone(c.p.Code)
	c.d.Loops, c.d.Claims = slices.Clone(c.d.Loops), slices.Clone(c.d.Claims)
	for k := range c.d.Claims {
		c.d.Claims[k].Cons = slices.Clone(c.d.Claims[k].Cons)
	}
	return c
}

// more adds bounds to a claim; less takes those of two variables away.
func (c pair) more(k int, cs ...[]api.Con) pair {
	return c.with(func(c *pair) { c.d.Claims[k].Cons = append(c.d.Claims[k].Cons, slices.Concat(cs...)...) })
}

func (c pair) less(k, i, j int) pair {
	return c.with(func(c *pair) {
		c.d.Claims[k].Cons = slices.DeleteFunc(c.d.Claims[k].Cons, func(c api.Con) bool { return c.I == i && c.J == j })
	})
}

// claimed puts a claim in the place of another one.
func (c pair) claimed(k int, claim api.Claim) pair {
	return c.with(func(c *pair) { c.d.Claims[k] = claim })
}

// tagged puts a tag in the place of another one.
func (c pair) tagged(k, v int, tag api.Tag) pair {
	return c.with(func(c *pair) {
		if v < slot0 {
			c.d.Claims[k].Regs[v-r0] = tag
		} else {
			c.d.Claims[k].Stack[v-slot0] = tag
		}
	})
}

// wantProven: the pair is proven, and told as the chapter says.
func (c pair) wantProven(t *testing.T) *check.Proven {
	t.Helper()
	v, fault := c.held(t)
	if v == nil || fault != (api.Fault{}) {
		t.Fatalf("%sis refused: %+v", c.told(), fault)
	}
	return v
}

// want: the pair is refused, with just this fault.
func (c pair) want(t *testing.T, want api.Fault) {
	t.Helper()
	v, fault := c.held(t)
	if v != nil || fault != want {
		t.Errorf("%sis proven %t, %+v; want %+v", c.told(), v != nil, fault, want)
	}
}

func unsafe(e api.Errno, block, ins int) api.Fault {
	return api.Fault{Class: api.ErrUnsafe, Code: e, Block: block, Ins: ins}
}

func loose(block, edge, ins int) api.Fault {
	return api.Fault{Class: api.ErrNotInductive, Block: block, Edge: edge, Ins: ins}
}

func unstarted() api.Fault { return api.Fault{Class: api.ErrNotInductive, Edge: -1} }

// summing is the chapter's program, with the warrant of its first row.
func summing(t *testing.T) pair {
	t.Helper()
	looping := tags{r0: num(), r1: ctx(), r3: ctx()}
	bounds := slices.Concat(same(r1, ln), cons(con(0, r3, 0)), atMost(r3, r1), cons(con(ln, 0, 100)))
	return paired(t, "r0 = 0\nr3 = r1\nr1 += r2\ntop: if r3 >= r1 goto out\nr4 = u8 [r3]\nr0 += r4\nr3 += 1\ngoto top\nout: exit",
		loops(rank(1, r1, r3, 0, 1)),
		claim(tags{r1: ctx(), r2: num()}, exactly(r1, 0), same(r2, ln), ranged(ln, 0, 100)),
		claim(looping, bounds),
		claim(looping, bounds, cons(con(r3, r1, -1)), atMost(r1, ghost0), atMost(ghost0+1, r3)),
		claim(tags{r0: num()}))
}

// TestExamples (P13.1): every row of the chapter's examples.
func TestExamples(t *testing.T) {
	c := summing(t)
	if got := fmt.Sprint(c.p.Code[3].Off, c.p.Code[7].Off, len(c.p.Code)); got != "4 -5 9" {
		t.Fatalf("the program is another one: %s", got)
	}
	c.wantProven(t)
	c.less(2, r3, r1).more(2, atMost(r3, r1)).want(t, unsafe(api.TrapBounds, 2, 4))
	c.more(1, cons(con(r3, 0, 50))).want(t, loose(2, 0, 7))
	c.more(0, cons(con(ln, 0, 99))).want(t, unstarted())
	c.claimed(3, dead()).want(t, loose(1, 0, 3))
}

// TestGhostsOfTheExample (P13.1): what block 2 says of the ghosts holds, and no more than that.
func TestGhostsOfTheExample(t *testing.T) {
	c := summing(t)
	c.more(2, atMost(ghost0, r1), atMost(r3, ghost0+1)).wantProven(t) // as they were set, and nothing was changed since
	for _, con := range []api.Con{con(r1, ghost0, -1), con(ghost0+1, r3, -1), con(ghost0+1, ghost0, -2), con(ghost0, 0, 99)} {
		c.more(2, cons(con)).want(t, loose(1, 1, 3))
	}
	c.more(2, cons(con(ghost0+1, ghost0, -1))).wantProven(t)
}

// TestLeast (P13.1, P13.2): the shortest program, with the claim that says nothing that it need not say.
func TestLeast(t *testing.T) {
	c := paired(t, "r0 = 7\nexit", nil, claim(nil))
	v := c.wantProven(t)
	if s := v.Before(1); s.Tag(r0) != num() || s.Bound(r0, 0) != (api.Bound{Is: true, C: 7}) {
		t.Errorf("ahead of the exit: %s", told(s))
	}
	paired(t, "exit", nil, claim(nil)).want(t, unsafe(api.TrapLeak, 0, 0))
	paired(t, "exit", nil, claim(tags{r0: num()})).want(t, unstarted())
}
