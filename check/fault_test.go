package check_test

import (
	"fmt"
	"slices"
	"strings"
	"testing"

	"warrant/api"
)

func program(e api.Errno, ins int) api.Fault {
	return api.Fault{Class: api.ErrProgram, Code: e, Ins: ins}
}

func cfg(e api.Errno, ins int) api.Fault {
	return api.Fault{Class: api.ErrCFG, Code: e, Ins: ins}
}

func cert(e api.Errno, at int) api.Fault {
	return api.Fault{Class: api.ErrCert, Code: e, Block: at}
}

// coding is the example with another instruction in a place.
func coding(t *testing.T, at int, i api.Ins) pair {
	t.Helper()
	return summing(t).with(func(c *pair) { c.p.Code[at] = i })
}

// TestPrograms (P13.1): each error of pack.Check, with its place as Ins.
func TestPrograms(t *testing.T) {
	sized := func(turn func(p *api.Program)) pair {
		return summing(t).with(func(c *pair) { turn(&c.p) })
	}
	sized(func(p *api.Program) { p.Lo = -1 }).want(t, program(api.ErrLens, 0))
	sized(func(p *api.Program) { p.Lo = 101 }).want(t, program(api.ErrLens, 0))
	sized(func(p *api.Program) { p.Hi = api.MaxCtx + 1 }).want(t, program(api.ErrLens, 0))
	sized(func(p *api.Program) { p.Tables = make([]api.Table, 9) }).want(t, program(api.ErrTable, 0))
	sized(func(p *api.Program) { p.Tables = []api.Table{{Rows: 1, Wide: 65}} }).want(t, program(api.ErrTable, 0))
	sized(func(p *api.Program) { p.Data = make([]byte, api.MaxData+1) }).want(t, program(api.ErrData, 0))
	sized(func(p *api.Program) { p.Code = nil }).want(t, program(api.ErrNoIns, 0))
	coding(t, 0, api.Ins{}).want(t, program(api.ErrOp, 0))
	coding(t, 5, api.Ins{Op: 99}).want(t, program(api.ErrOp, 5))
	coding(t, 8, api.Ins{Op: api.OpMov, Dst: 10}).want(t, program(api.ErrReg, 8))
	coding(t, 4, api.Ins{Op: api.OpLoad, Size: 1, Off: 1 << 15}).want(t, program(api.ErrField, 4))
	coding(t, 4, api.Ins{Op: api.OpLoad, Size: 3}).want(t, program(api.ErrOp, 4))
	coding(t, 6, api.Ins{Op: api.OpDiv, Dst: 3}).want(t, program(api.ErrImm, 6))
	coding(t, 2, api.Ins{Op: api.OpData, Dst: 1, Imm: 1}).want(t, program(api.ErrData, 2))
	sized(func(p *api.Program) { p.Code = slices.Repeat(p.Code, 456) }).want(t, program(api.ErrMany, api.MaxIns))
}

// TestFlows (P13.1): each error of flow.Make, with its place as Ins.
func TestFlows(t *testing.T) {
	coding(t, 7, api.Ins{Op: api.OpJa, Off: 1}).want(t, cfg(api.ErrTarget, 7))
	coding(t, 8, api.Ins{Op: api.OpMov}).want(t, cfg(api.ErrEnd, 8))
	coding(t, 2, api.Ins{Op: api.OpExit}).want(t, cfg(api.ErrReach, 3))
	paired(t, "if r1 == 0 goto b\na: r0 = 0\nb: if r1 == 1 goto a\nexit", nil).want(t, cfg(api.ErrShape, 1))
	many := strings.Repeat("if r1 == 0 goto +0\n", api.MaxBlocks)
	paired(t, many+"exit", nil).want(t, cfg(api.ErrBlocks, api.MaxBlocks))
	var deep strings.Builder
	for h := range api.MaxLoops + 1 {
		fmt.Fprintf(&deep, "l%d: r0 = 0\nif r0 == 1 goto l%d\n", h, h)
	}
	paired(t, deep.String()+"exit", nil).want(t, cfg(api.ErrLoops, 2*api.MaxLoops))
}

// nested has two loops, one within the other: the head 1 with the blocks 1 to 4, the head 2 with 2 and 3.
func nested(t *testing.T) pair {
	t.Helper()
	at := func(low3, low4 int) api.Claim {
		return claim(tags{r0: num(), r3: num(), r4: num()}, ranged(r3, low3, 9), ranged(r4, low4, 9))
	}
	return paired(t, "r0 = 0\nr3 = 9\nr4 = 9\nouter: if r3 s<= 0 goto out\ninner: if r4 s<= 0 goto back\nr4 -= 1\ngoto inner\nback: r3 -= 1\nr4 = 9\ngoto outer\nout: exit",
		loops(rank(1, r3, 0, 0, 1), rank(2, r4, 0, 0, 1)), claim(nil), at(0, 0), at(1, 0), at(1, 1), at(1, 0), claim(tags{r0: num()}))
}

// TestWarrants (P13.1): each error of deed.Check, with the number of the loop or of the claim as Block.
func TestWarrants(t *testing.T) {
	c := nested(t)
	c.wantProven(t)
	looped := func(h int, turn func(l *api.Loop)) pair {
		return c.with(func(c *pair) { turn(&c.d.Loops[h]) })
	}
	for h := range 2 {
		looped(h, func(l *api.Loop) { l.Head++ }).want(t, cert(api.ErrLoop, h))
		looped(h, func(l *api.Loop) { l.A = 44 }).want(t, cert(api.ErrLoop, h))
		looped(h, func(l *api.Loop) { l.B = -1 }).want(t, cert(api.ErrLoop, h))
		looped(h, func(l *api.Loop) { l.B = l.A }).want(t, cert(api.ErrLoop, h))
		looped(h, func(l *api.Loop) { l.K = api.MaxConst + 1 }).want(t, cert(api.ErrLoop, h))
		looped(h, func(l *api.Loop) { l.D = 0 }).want(t, cert(api.ErrLoop, h))
	}
	c.with(func(c *pair) { c.d.Loops = c.d.Loops[:1] }).want(t, cert(api.ErrCount, 0))
	c.with(func(c *pair) { c.d.Claims = c.d.Claims[:5] }).want(t, cert(api.ErrCount, 0))
	c.with(func(c *pair) { c.d = api.Deed{} }).want(t, cert(api.ErrCount, 0))
	for k := range 6 {
		c.tagged(k, r7, row(0)).want(t, cert(api.ErrKind, k)) // there are no tables
		c.tagged(k, r7, kind(7)).want(t, cert(api.ErrKind, k))
		c.tagged(k, slot31, mask(256)).want(t, cert(api.ErrKind, k))
		c.more(k, cons(con(ln, 0, api.MaxConst+1))).want(t, cert(api.ErrCons, k))
		c.more(k, cons(con(r7, 0, 1))).want(t, cert(api.ErrCons, k))
		c.more(k, cons(con(60, 0, 1))).want(t, cert(api.ErrVar, k))
		c.more(k, ranged(ln, 1, 0)).want(t, cert(api.ErrVoid, k))
		c.claimed(k, api.Claim{Dead: true, Cons: cons(con(ln, 0, 1))}).want(t, cert(api.ErrDead, k))
	}
	for k, ghosts := range [][2]bool{{false, false}, {false, false}, {true, false}, {true, true}, {true, false}, {false, false}} {
		for h, may := range ghosts {
			for n := range 2 {
				other := c.more(k, cons(con(ghost0+2*h+n, 0, 1<<20)))
				if _, fault := other.held(t); (fault == cert(api.ErrGhost, k)) == may {
					t.Errorf("a ghost of loop %d in block %d: %+v", h, k, fault)
				}
			}
		}
	}
	c.more(4, cons(con(ghost0+4, 0, 1))).want(t, cert(api.ErrGhost, 4)) // of a loop that there is none of
}

// TestStarts (P13.1): a beginning that is not inside the claim of block 0: by its kinds, by a mask, by its zone, and where that is Dead.
func TestStarts(t *testing.T) {
	c := summing(t)
	for v := r0; v <= slot31; v++ {
		for _, tag := range []api.Tag{num(), ctx(), kind(api.KindStack), kind(api.KindData)} {
			if is := v == r1 && tag == ctx() || v == r2 && tag == num(); !is {
				other := c.claimed(0, claim(nil)).tagged(0, v, tag)
				other.want(t, unstarted())
			}
		}
		if v >= slot0 {
			c.tagged(0, v, mask(1)).want(t, unstarted())
		}
	}
	c.claimed(0, dead()).want(t, unstarted())
	for _, con := range []api.Con{con(ln, 0, 99), con(0, ln, -1), con(r1, 0, -1), con(0, r1, -1), con(r2, ln, -1), con(ln, r2, -1), con(r2, r1, 99), con(r1, r2, -1)} {
		other := c.claimed(0, claim(tags{r1: ctx(), r2: num()}, cons(con)))
		other.want(t, unstarted())
	}
	longer := c.with(func(c *pair) { c.p.Hi = 101 })
	longer.want(t, unstarted())
	c.with(func(c *pair) { c.p.Lo = 100 }).wantProven(t)
}

// TestStartsWithLess (P13.1): the claim of block 0 may say less than is known of the beginning, or just that.
func TestStartsWithLess(t *testing.T) {
	for _, first := range []api.Claim{claim(nil), claim(tags{r1: ctx()}), claim(tags{r2: num()}, atMost(r2, ln)), claim(tags{r1: ctx(), r2: num()}, exactly(r1, 0), same(r2, ln), ranged(ln, 0, 100))} {
		paired(t, "r0 = 1\nexit", nil, first).wantProven(t)
	}
	paired(t, "r0 = r2\nexit", nil, claim(tags{r1: ctx()})).want(t, unsafe(api.TrapKind, 0, 0))
}

// TestBegunAtAHead (P13.1): a program that begins at a loop's head: its claim is the beginning's, and that of the edge back.
func TestBegunAtAHead(t *testing.T) {
	text := "top: r0 = 0\nif r2 == 7 goto top\nexit"
	keep := claim(tags{r1: ctx(), r2: num()}, same(r2, ln))
	v := paired(t, text, loops(rank(0, r2, ln, 0, 1)), keep, claim(tags{r0: num()})).wantProven(t)
	if s := v.Before(0); s.Bound(ghost0, ghost0+1) != (api.Bound{Is: true}) || s.Bound(ghost0+1, r2) != (api.Bound{Is: true}) {
		t.Errorf("at the beginning: %s", told(s))
	}
	paired(t, text, loops(rank(0, r2, ln, 0, 1)), claim(tags{r0: num(), r2: num()}), claim(nil)).want(t, unstarted())
	paired(t, "top: r0 = 0\nr2 -= 1\nif r2 == 7 goto top\nexit", loops(rank(0, r2, ln, 0, 1)), keep, claim(tags{r0: num()})).want(t, loose(0, 0, 2))
}
