package check_test

import (
	"testing"

	"warrant/api"
)

// flaw is something that makes a pair wrong.
type flaw struct {
	want api.Fault
	turn func(c *pair)
}

// longer is the example with three blocks more behind it.
func longer(t *testing.T) pair {
	t.Helper()
	c := summing(t)
	c.p.Code = coded(t, "r0 = 0\nr3 = r1\nr1 += r2\ntop: if r3 >= r1 goto out\nr4 = u8 [r3]\nr0 += r4\nr3 += 1\ngoto top\nout: r4 = 5\nif r0 == 3 goto last\nr0 = 1\nlast: exit").Code
	n := claim(tags{r0: num()})
	c.d.Claims = append(c.d.Claims, n, n)
	return c
}

// flaws are of all sorts, in the order in which they are told.
func flaws() []flaw {
	ins := func(at int, i api.Ins) func(c *pair) { return func(c *pair) { c.p.Code[at] = i } }
	none := api.Ins{Op: api.OpMov, Reg: true, Src: 9}
	into := func(i api.Ins, dst int) api.Ins { i.Dst = dst; return i }
	tag := func(k, v int, tag api.Tag) func(c *pair) { return func(c *pair) { c.d.Claims[k].Regs[v-r0] = tag } }
	bound := func(k, i, j, c int) func(c *pair) {
		return func(p *pair) { p.d.Claims[k].Cons = append(p.d.Claims[k].Cons, con(i, j, c)) }
	}
	return []flaw{
		{program(api.ErrLens, 0), func(c *pair) { c.p.Lo = -1 }},
		{program(api.ErrTable, 0), func(c *pair) { c.p.Tables = make([]api.Table, 1) }},
		{program(api.ErrData, 0), func(c *pair) { c.p.Data = make([]byte, api.MaxData+1) }},
		{program(api.ErrReg, 8), ins(8, into(none, 10))},
		{program(api.ErrOp, 10), ins(10, api.Ins{})},
		{cfg(api.ErrTarget, 9), func(c *pair) { c.p.Code[9].Off = 7 }},
		{cfg(api.ErrEnd, 11), ins(11, api.Ins{Op: api.OpMov})},
		{cert(api.ErrCount, 0), func(c *pair) { c.d.Claims = append(c.d.Claims, api.Claim{}) }},
		{cert(api.ErrLoop, 0), func(c *pair) { c.d.Loops[0].D = 0 }},
		{cert(api.ErrVar, 4), bound(4, 60, 0, 1)},
		{cert(api.ErrKind, 5), tag(5, r7+1, kind(7))},
		{unstarted(), func(c *pair) { c.p.Hi = 101 }},
		{unsafe(api.TrapKind, 0, 1), ins(1, into(none, 3))},
		{loose(0, 0, 2), bound(1, 0, ln, -1)},
		{loose(1, 0, 3), tag(3, r7, num())},
		{loose(1, 1, 3), tag(2, r7, num())},
		{unsafe(api.TrapBounds, 2, 4), func(c *pair) { c.p.Code[4].Off = 1 }},
		{unsafe(api.TrapKind, 2, 5), ins(5, none)},
		{loose(2, 0, 7), bound(1, r3, 0, 50)},
		{unsafe(api.TrapKind, 3, 8), ins(8, none)},
		{unsafe(api.TrapKind, 3, 9), tag(3, r0, mask(0))},
		{loose(3, 0, 9), tag(5, r7, num())},
		{loose(3, 1, 9), tag(4, r7, num())},
		{unsafe(api.TrapKind, 4, 10), ins(10, into(none, 0))},
		{loose(4, 0, 10), tag(5, r4, num())}, // as block 3 sets it, and the claim of block 4 does not have it
		{unsafe(api.TrapLeak, 5, 11), tag(5, r0, mask(0))},
	}
}

// TestEach (P13.1): each flaw by itself.
func TestEach(t *testing.T) {
	longer(t).wantProven(t)
	for _, f := range flaws() {
		longer(t).with(f.turn).want(t, f.want)
	}
}

// TestTwoAtOnce (P13.1): of any two the one that the chapter has first.
func TestTwoAtOnce(t *testing.T) {
	all := flaws()
	for n, first := range all {
		for _, second := range all[n+1:] {
			longer(t).with(second.turn).with(first.turn).want(t, first.want)
		}
	}
}

// TestAllFromOneOn (P13.1): of all flaws behind one, and it, that one.
func TestAllFromOneOn(t *testing.T) {
	all := flaws()
	c := longer(t)
	for n := len(all) - 1; n >= 0; n-- {
		c = c.with(all[n].turn)
		c.want(t, all[n].want)
	}
}
