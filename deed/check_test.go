package deed_test

import (
	"math"
	"slices"
	"testing"

	"warrant/api"
	"warrant/asm"
	"warrant/deed"
	"warrant/flow"
)

// thing is a program and its flow.
type thing struct {
	p api.Program
	f *flow.Flow
}

func programmed(t *testing.T, text string, tables int) thing {
	t.Helper()
	l, line, e := asm.Parse(text)
	if e != api.OK {
		t.Fatalf("%v at %d of %s", e, line, text)
	}
	f, at, e := flow.Make(l)
	if e != api.OK {
		t.Fatalf("%v at %d of %s", e, at, text)
	}
	p := api.Program{Hi: 9, Code: l, Tables: make([]api.Table, tables)}
	for n := range p.Tables {
		p.Tables[n] = api.Table{Rows: 1, Wide: 1}
	}
	return thing{p, f}
}

const (
	straight = "exit"
	// One loop: head 1, blocks 1 and 3. The block 2, between them, is outside.
	single = "r0 = 0\ntop: if r0 == 9 goto more\nexit\nmore: r0 += 1\ngoto top"
	// The loop 0: head 1, blocks 1 to 5; the loop 1 in it: head 3, blocks 3 and 4. The block 6 is outside.
	nested = "r0 = 0\nouter: if r0 == 9 goto out\nr1 = 0\ninner: if r1 == 9 goto next\nr1 += 1\ngoto inner\nnext: r0 += 1\ngoto outer\nout: exit"
	// The loop 0: head 1, blocks 1 and 2; the loop 1: head 4, blocks 4 and 5.
	beside = "r0 = 0\na: if r0 == 9 goto more\nr0 += 1\ngoto a\nmore: r1 = 0\nb: if r1 == 9 goto out\nr1 += 1\ngoto b\nout: exit"
)

// suited is a deed that fits a program and says next to nothing.
func (p thing) suited() api.Deed {
	d := claims(make([]api.Claim, len(p.f.Blocks()))...)
	for _, l := range p.f.Loops() {
		d.Loops = append(d.Loops, rank(l.Head, 3, 0, 0, 1))
	}
	return d
}

func (p thing) wantFit(t *testing.T, d api.Deed) {
	t.Helper()
	p.want(t, d, 0, api.OK)
}

func (p thing) want(t *testing.T, d api.Deed, want int, f api.Errno) {
	t.Helper()
	if at, e := deed.Check(p.p, p.f, d); e != f || at != want {
		t.Errorf("%s\nof %d tables, blocks %v, loops %v: %v at %d; want %v at %d", told(d), len(p.p.Tables), p.f.Blocks(), p.f.Loops(), e, at, f, want)
	}
}

// TestCheckCounts (P11.6): so many loops as the flow has, and so many claims as it has blocks; one fewer and one more, whatever is in them.
func TestCheckCounts(t *testing.T) {
	for text, want := range map[string][2]int{straight: {0, 1}, single: {1, 4}, nested: {2, 7}, beside: {2, 7}} {
		p := programmed(t, text, 0)
		if got := [2]int{len(p.f.Loops()), len(p.f.Blocks())}; got != want {
			t.Fatalf("%v loops and blocks; want %v", got, want)
		}
		for loops := range 12 {
			for blocks := range 12 {
				d := api.Deed{Loops: make([]api.Loop, loops), Claims: make([]api.Claim, blocks)}
				for n, l := range p.f.Loops()[:min(loops, want[0])] {
					d.Loops[n] = rank(l.Head, 3, 0, 0, 1)
				}
				if want == [2]int{loops, blocks} {
					p.wantFit(t, d)
					continue
				}
				p.want(t, d, 0, api.ErrCount)
				for n := range d.Loops { // ahead of all else
					d.Loops[n].Head = -1
				}
				for n := range d.Claims {
					d.Claims[n].Regs[0].Kind = 9
				}
				p.want(t, d, 0, api.ErrCount)
			}
		}
		p.want(t, api.Deed{}, 0, api.ErrCount)
	}
	p := programmed(t, straight, 0)
	p.want(t, claims(make([]api.Claim, 100000)...), 0, api.ErrCount)
	p.want(t, api.Deed{Loops: make([]api.Loop, 100000), Claims: make([]api.Claim, 1)}, 0, api.ErrCount)
}

// TestCheckLoops (P11.6): each number of a loop, at its ends and one past them, in each loop.
func TestCheckLoops(t *testing.T) {
	places := []struct {
		good []int
		in   func(l *api.Loop) *int
	}{
		{[]int{0, 1, 2, 43}, func(l *api.Loop) *int { return &l.A }}, // B is 30 here, A 40
		{[]int{0, 1, 2, 43}, func(l *api.Loop) *int { return &l.B }},
		{[]int{-most, -1, 0, 1, 2, 43, 44, 59, 60, most}, func(l *api.Loop) *int { return &l.K }},
		{[]int{1, 2, 43, 44, 59, 60, most}, func(l *api.Loop) *int { return &l.D }},
	}
	odd := []int{math.MinInt, -most - 1, -most, -1, 0, 1, 2, 43, 44, 59, 60, most, most + 1, math.MaxInt}
	for _, text := range []string{single, nested, beside} {
		p := programmed(t, text, 0)
		for n := range p.f.Loops() {
			for _, place := range places {
				for _, v := range odd {
					d := p.suited()
					d.Loops[n].A, d.Loops[n].B = 40, 30
					*place.in(&d.Loops[n]) = v
					if slices.Contains(place.good, v) {
						p.wantFit(t, d)
					} else {
						p.want(t, d, n, api.ErrLoop)
					}
				}
			}
			for v := range 60 {
				d := p.suited()
				d.Loops[n].A, d.Loops[n].B = v, v
				p.want(t, d, n, api.ErrLoop)
			}
			for _, head := range []int{math.MinInt, -1, 0, 1, 2, 3, 4, 5, 6, 7, math.MaxInt} {
				d := p.suited()
				d.Loops[n].Head = head
				if head == p.f.Loops()[n].Head {
					p.wantFit(t, d)
				} else {
					p.want(t, d, n, api.ErrLoop)
				}
			}
		}
	}
	p := programmed(t, beside, 0)
	d := p.suited()
	d.Loops[0], d.Loops[1] = d.Loops[1], d.Loops[0]
	p.want(t, d, 0, api.ErrLoop)
	d = p.suited()
	d.Loops[1].D = 0
	d.Claims[0].Regs[0].Kind = 9
	p.want(t, d, 1, api.ErrLoop) // ahead of all claims
	d.Loops[0].D = 0
	p.want(t, d, 0, api.ErrLoop)
}

// TestCheckDeadHead (P11.6): a dead head's loop is asked as any other one is.
func TestCheckDeadHead(t *testing.T) {
	p := programmed(t, single, 0)
	d := p.suited()
	for n := range d.Claims {
		d.Claims[n] = dead()
	}
	p.wantFit(t, d)
	d.Loops[0].D = 0
	p.want(t, d, 0, api.ErrLoop)
	d.Loops[0] = rank(2, 3, 0, 0, 1)
	p.want(t, d, 0, api.ErrLoop)
}

// TestCheckTables (P11.6): a tag names one of the program's tables, in each register and slot, with as many tables as there may be.
func TestCheckTables(t *testing.T) {
	for tables := range 9 {
		p := programmed(t, single, tables)
		for _, table := range []int{math.MinInt, -1, 0, 1, 2, 6, 7, 8, 9, math.MaxInt} {
			for n := range 10 {
				for _, tag := range []api.Tag{row(table), maybe(table)} {
					d := p.suited()
					d.Claims[n%4].Regs[n] = tag
					p.wantTable(t, d, n%4, table >= 0 && table < tables)
				}
			}
			for n := range 32 {
				for _, tag := range []api.Tag{row(table), maybe(table)} {
					d := p.suited()
					d.Claims[n%4].Stack[n] = tag
					p.wantTable(t, d, n%4, table >= 0 && table < tables)
				}
			}
		}
		for _, k := range []int{0, 1, 2, 3, 4} { // of the others the kind's own fault is told
			d := p.suited()
			d.Claims[2].Regs[3] = api.Tag{Kind: k, Table: 1}
			p.want(t, d, 2, api.ErrKind)
			d.Claims[2].Regs[3] = kind(k)
			p.wantFit(t, d)
		}
	}
}

func (p thing) wantTable(t *testing.T, d api.Deed, at int, good bool) {
	t.Helper()
	if good {
		p.wantFit(t, d)
	} else {
		p.want(t, d, at, api.ErrKind)
	}
}

// TestCheckConst (P11.6): a constraint's C at its ends and one past them: less than a shape may have.
func TestCheckConst(t *testing.T) {
	p := programmed(t, single, 0)
	for n := range 4 {
		for _, c := range []int{math.MinInt, -1<<60 - 1, -1 << 60, -most - 1, most + 1, 1 << 60, 1<<60 + 1, math.MaxInt} {
			d := p.suited()
			d.Claims[n] = claim(con(1, 0, 3), con(0, 1, c))
			p.want(t, d, n, api.ErrCons)
		}
		d := p.suited()
		d.Claims[n] = claim(con(1, 0, most))
		p.wantFit(t, d)
		d.Claims[n] = claim(con(1, 0, -most))
		p.wantFit(t, d)
	}
}

// TestCheckShape (P11.6): what is wrong with a claim as a shape, each with its error.
func TestCheckShape(t *testing.T) {
	p := programmed(t, single, 1)
	valued := api.Claim{Regs: regs(num(), row(0), kind(api.KindStack), maybe(0)), Stack: tags{7: mask(255), 8: num()}.stack()}
	with := func(cs ...api.Con) api.Claim {
		c := valued
		c.Cons = cs
		return c
	}
	for _, w := range []struct {
		c api.Claim
		e api.Errno
	}{
		{with(), api.OK}, {dead(), api.OK}, {with(con(2, 3, 0), con(4, 20, 0), con(1, 0, 9)), api.OK},
		{with(con(2, 3, 1), con(2, 3, 0), con(0, 1, 5), con(0, 1, 5)), api.OK}, // the order, and one twice, are no fault here
		{with(con(2, 0, 5), con(0, 2, -6)), api.ErrVoid}, {with(con(60, 0, 0)), api.ErrVar}, {with(con(0, -1, 0)), api.ErrVar}, {with(con(2, 2, 0)), api.ErrVar},
		{with(con(5, 0, 0)), api.ErrCons}, {with(con(0, 19, 0)), api.ErrCons}, {with(con(0, 43, 0)), api.ErrCons},
		{api.Claim{Regs: regs(mask(1))}, api.ErrKind}, {api.Claim{Regs: regs(kind(7))}, api.ErrKind}, {slots(tags{5: mask(256)}), api.ErrKind},
		{api.Claim{Dead: true, Regs: regs(num())}, api.ErrDead}, {api.Claim{Dead: true, Cons: []api.Con{con(44, 0, 0)}}, api.ErrDead},
		// A table that is not there, and a C beyond the limit, are told ahead of what a shape would say, of a dead claim too.
		{api.Claim{Dead: true, Regs: regs(row(1))}, api.ErrKind}, {api.Claim{Dead: true, Cons: []api.Con{con(0, 1, most+1)}}, api.ErrCons},
		{api.Claim{Regs: regs(kind(7)), Cons: []api.Con{con(0, 1, most+1)}}, api.ErrCons}, {with(con(60, 0, 0), con(0, 1, most+1)), api.ErrCons},
		{api.Claim{Regs: regs(row(1)), Cons: []api.Con{con(0, 1, most+1)}}, api.ErrKind}, {with(con(2, 0, 5), con(0, 2, -6), con(0, 1, most+1)), api.ErrCons},
	} {
		for n := range 4 {
			d := p.suited()
			d.Claims[n] = w.c
			at := n
			if w.e == api.OK {
				at = 0
			}
			p.want(t, d, at, w.e)
		}
	}
}

// known tells in which blocks the ghosts of each loop are known, by the programs' texts.
func known() map[string][][]int {
	return map[string][][]int{
		straight: {},
		single:   {{3}},
		nested:   {{2, 3, 4, 5}, {4}},
		beside:   {{2}, {5}},
	}
}

// TestCheckGhosts (P11.6): a ghost may stand in its loop's blocks alone, and not at its head, as I and as J, the first one and the second.
func TestCheckGhosts(t *testing.T) {
	for text, blocks := range known() {
		p := programmed(t, text, 0)
		for v := 44; v < 60; v++ {
			for n := range p.f.Blocks() {
				good := (v-44)/2 < len(blocks) && slices.Contains(blocks[(v-44)/2], n)
				for _, cs := range [][]api.Con{{con(v, 0, 5)}, {con(1, v, 5)}, {con(0, 1, 5), con(1, 0, 9), con(v, 1, 5)}, {con(0, v, 5), con(1, 0, 7)}} {
					d := p.suited()
					d.Claims[n] = claim(cs...)
					if good {
						p.wantFit(t, d)
					} else {
						p.want(t, d, n, api.ErrGhost)
					}
				}
			}
		}
	}
	p := programmed(t, nested, 0)
	d := p.suited()
	d.Claims[4] = claim(con(44, 47, 3), con(46, 45, 3)) // both loops' ghosts in the inner one
	p.wantFit(t, d)
	d.Claims[3] = claim(con(44, 47, 3))
	p.want(t, d, 3, api.ErrGhost)
	d.Claims[3] = claim(con(47, 44, 3))
	p.want(t, d, 3, api.ErrGhost)
}

// faults are those of a claim, in their order; the last one wants no loop.
func faults() []flaw {
	more := func(c *api.Claim, cs ...api.Con) { c.Cons = append(slices.Clone(c.Cons), cs...) }
	at := func(order, n int, e api.Errno, do func(c *api.Claim)) flaw {
		return flaw{order: []int{1, n, order}, e: e, do: func(d *api.Deed) { do(&d.Claims[n]) }}
	}
	var l []flaw
	for n := range 4 {
		l = append(l,
			at(0, n, api.ErrKind, func(c *api.Claim) { c.Stack[31] = maybe(1) }),
			at(1, n, api.ErrCons, func(c *api.Claim) { more(c, con(0, 1, most+1)) }),
			at(2, n, api.ErrDead, func(c *api.Claim) { c.Dead, c.Stack[2] = true, num() }),
			at(3, n, api.ErrKind, func(c *api.Claim) { c.Regs[1].Mask = 1 }),
			at(4, n, api.ErrVar, func(c *api.Claim) { c.Cons = append([]api.Con{con(60, 0, 0)}, c.Cons...) }),
			at(5, n, api.ErrVoid, func(c *api.Claim) { more(c, con(1, 0, 5), con(0, 1, -6)) }),
			at(6, n, api.ErrGhost, func(c *api.Claim) { more(c, con(58, 0, 5)) }),
		)
	}
	return append(l,
		flaw{order: []int{0}, e: api.ErrLoop, do: func(d *api.Deed) { d.Loops[0].D = 0 }},
		flaw{order: []int{0}, e: api.ErrLoop, do: func(d *api.Deed) { d.Loops[0].Head = 0 }},
		flaw{order: []int{-1}, e: api.ErrCount, do: func(d *api.Deed) { d.Claims = append(d.Claims, claim()) }},
		flaw{order: []int{-1}, e: api.ErrCount, do: func(d *api.Deed) { d.Loops = append(d.Loops, rank(3, 3, 0, 0, 1)) }},
	)
}

// TestFirstFault (P11.6): of each two faults the first one is told, in one claim and in two.
func TestFirstFault(t *testing.T) {
	p := programmed(t, single, 1)
	p.wantFit(t, p.suited())
	for _, f := range faults() {
		for _, g := range faults() {
			first := f
			if slices.Compare(g.order, f.order) < 0 {
				first = g
			}
			place := 0
			if len(first.order) > 1 {
				place = first.order[1]
			}
			d := p.suited()
			f.do(&d)
			g.do(&d)
			p.want(t, d, place, first.e)
		}
	}
}

// TestCheckPlain (P11.6): deeds that are not plain are asked as any others: what the bytes alone forbid is no fault.
func TestCheckPlain(t *testing.T) {
	p := programmed(t, single, 8)
	d := p.suited()
	d.Claims[3] = claim(con(45, 1, 0), con(1, 0, 5), con(1, 0, 7), con(0, 44, -1))
	d.Claims[3].Regs[2] = maybe(7)
	wantUnwritten(t, d, api.ErrOrder)
	p.wantFit(t, d)
	d = p.suited()
	d.Claims[1] = claim(slices.Repeat([]api.Con{con(1, 0, 5), con(0, 1, 0)}, 100000)...)
	p.wantFit(t, d)
	p.p.Tables = slices.Repeat(p.p.Tables, 3) // no shape knows a table beyond the limit
	d.Claims[1] = api.Claim{Regs: regs(row(8))}
	p.want(t, d, 1, api.ErrKind)
}
