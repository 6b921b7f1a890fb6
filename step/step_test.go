package step_test

import (
	"testing"

	"warrant/api"
	"warrant/shape"
	"warrant/step"
	"warrant/zone"
)

// The variables of r0, of the chapter's x and y (r3 and r4), of r5, and of the slots 0 and 31.
const (
	r0     = 2
	x      = 5
	y      = 6
	z      = 7
	slot0  = 12
	slot31 = 43
)

func con(i, j, c int) api.Con { return api.Con{I: i, J: j, C: c} }

func cons(cs ...api.Con) []api.Con { return cs }

// ranged says that a variable is from lo to hi.
func ranged(v, lo, hi int) []api.Con { return cons(con(v, 0, hi), con(0, v, -lo)) }

// exactly says that a variable is a number; same, that two are one.
func exactly(v, n int) []api.Con { return ranged(v, n, n) }

func same(v, w int) []api.Con { return cons(con(v, w, 0), con(w, v, 0)) }

func kind(k int) api.Tag { return api.Tag{Kind: k} }

func num() api.Tag { return kind(api.KindNum) }

func row(table int) api.Tag { return api.Tag{Kind: api.KindRow, Table: table} }

func maybe(table int) api.Tag { return api.Tag{Kind: api.KindMaybe, Table: table} }

func mask(bits int) api.Tag { return api.Tag{Mask: bits} }

// tags are of registers and slots, by their variables; of all others zero.
type tags map[int]api.Tag

func claim(l tags, cs ...api.Con) api.Claim {
	c := api.Claim{Cons: cs}
	for v, t := range l {
		if v < 12 {
			c.Regs[v-2] = t
		} else {
			c.Stack[v-12] = t
		}
	}
	return c
}

// of is the shape of a claim with these tags and Cons.
func of(t *testing.T, l tags, cs ...[]api.Con) *shape.Shape {
	t.Helper()
	var all []api.Con
	for _, c := range cs {
		all = append(all, c...)
	}
	s, e := shape.From(claim(l, all...))
	if s == nil || e != api.OK {
		t.Fatalf("no shape: %s, %v", listed(claim(l, all...)), e)
	}
	return s
}

// program has 16 bytes of data and two tables: 4 rows of 8 bytes, 64 of 3.
func program() api.Program {
	return api.Program{Hi: 64, Data: make([]byte, 16), Tables: []api.Table{{Rows: 4, Wide: 8}, {Rows: 64, Wide: 3}}}
}

// call is Do, or Take on an edge, of the program above.
type call struct {
	s     *shape.Shape
	i     api.Ins
	edged bool
	taken bool
}

func doing(s *shape.Shape, i api.Ins) call { return call{s: s, i: i} }

func taking(s *shape.Shape, i api.Ins, taken bool) call { return call{s, i, true, taken} }

func (c call) told() string {
	text := told(c.s) + ": " + spelt(c.i)
	switch {
	case c.edged && c.taken:
		text += ", taken"
	case c.edged:
		text += ", not taken"
	}
	return text
}

func (c call) of(p api.Program) (*shape.Shape, api.Errno) {
	if c.edged {
		return step.Take(p, c.s, c.i, c.taken)
	}
	return step.Do(p, c.s, c.i)
}

// reckon is what the chapter's words come to.
func (c call) reckon(p api.Program) (reckoned, api.Errno) {
	if c.edged {
		return reckonTake(p, c.s, c.i, c.taken)
	}
	return reckonDo(p, c.s, c.i)
}

// held answers a call, and holds it against the chapter's words.
func (c call) held(t *testing.T, p api.Program) (*shape.Shape, api.Errno) {
	t.Helper()
	s, e := c.of(p)
	want, f := c.reckon(p)
	if e != f || (s == nil) != (e != api.OK) {
		t.Fatalf("%s: %s, %v; the chapter's words have %v", c.told(), told(s), e, f)
	}
	if s != nil {
		wantReckoned(t, c, s, want)
	}
	return s, e
}

func wantReckoned(t *testing.T, c call, s *shape.Shape, want reckoned) {
	t.Helper()
	if s.Dead() != want.dead {
		t.Fatalf("%s: %s; the chapter's words have dead %v", c.told(), told(s), want.dead)
	}
	if want.dead {
		return
	}
	for v, tag := range want.tag {
		if s.Tag(v) != tag {
			t.Fatalf("%s: %s; the chapter's words have the tag %v of %d", c.told(), told(s), tag, v)
		}
	}
	if !s.Same(want.z) {
		t.Fatalf("%s: %s; the chapter's words have the bounds %s", c.told(), told(s), listed(api.Claim{Cons: want.z.Cons()}))
	}
}

// wantTrap: the call is refused, and answers nothing but its error.
func wantTrap(t *testing.T, want api.Errno, c call) {
	t.Helper()
	s, e := c.held(t, program())
	if s != nil || e != want {
		t.Errorf("%s: %s, %v; want nil, %v", c.told(), told(s), e, want)
	}
}

// wantTraps: so is each of these instructions over a shape.
func wantTraps(t *testing.T, want api.Errno, s *shape.Shape, l ...api.Ins) {
	t.Helper()
	for _, i := range l {
		wantTrap(t, want, doing(s, i))
	}
}

// wantIs: the call answers a shape just like another one.
func wantIs(t *testing.T, c call, want *shape.Shape) {
	t.Helper()
	s, e := c.held(t, program())
	if s == nil || e != api.OK || !alike(s, want) {
		t.Errorf("%s: %s, %v; want %s", c.told(), told(s), e, told(want))
	}
}

// wantSame: the call answers what was there.
func wantSame(t *testing.T, c call) {
	t.Helper()
	wantIs(t, c, c.s)
}

func wantDead(t *testing.T, c call) {
	t.Helper()
	wantIs(t, c, shape.Dead())
}

// alike tells whether two shapes have the same tags and bounds.
func alike(a, b *shape.Shape) bool {
	for v := range vars {
		if a.Tag(v) != b.Tag(v) {
			return false
		}
	}
	return a.Dead() == b.Dead() && a.Same(b.Zone)
}

// Instructions, by their operands.

func byReg(op, dst, src int) api.Ins { return api.Ins{Op: op, Reg: true, Dst: dst, Src: src} }

func byImm(op, dst, imm int) api.Ins { return api.Ins{Op: op, Dst: dst, Imm: imm} }

func narrow(i api.Ins) api.Ins {
	i.Narrow = true
	return i
}

func sized(op, size, dst, src, off int) api.Ins {
	return api.Ins{Op: op, Size: size, Dst: dst, Src: src, Off: off}
}

func loading(size, dst, src, off int) api.Ins { return sized(api.OpLoad, size, dst, src, off) }

func storing(size, dst, off, src int) api.Ins {
	i := sized(api.OpStore, size, dst, src, off)
	i.Reg = true
	return i
}

func storingImm(size, dst, off, imm int) api.Ins {
	return api.Ins{Op: api.OpStore, Size: size, Dst: dst, Off: off, Imm: imm}
}

func calling(id int) api.Ins { return api.Ins{Op: api.OpCall, Imm: id} }

// TestExamples: every row of the chapter's section Examples.
func TestExamples(t *testing.T) {
	n, ctx := tags{x: num()}, tags{x: kind(api.KindCtx)}
	two := tags{x: num(), y: num()}
	five := of(t, n, ranged(x, 0, 5))
	wantIs(t, doing(five, byImm(api.OpAdd, 3, 7)), of(t, n, ranged(x, 7, 12)))
	wantIs(t, doing(five, byImm(api.OpMul, 3, 3)), of(t, n, ranged(x, 0, 15)))
	wantIs(t, doing(five, byReg(api.OpMov, 4, 3)), of(t, two, ranged(y, 0, 5), same(x, y)))

	natural := of(t, n, cons(con(0, x, 0)))
	wantIs(t, doing(natural, byImm(api.OpAdd, 3, 1)), of(t, n))
	wantIs(t, doing(natural, byImm(api.OpSub, 3, 1)), of(t, n, cons(con(0, x, 1))))

	both := of(t, two, ranged(x, 0, 5), ranged(y, 1, 2))
	wantIs(t, doing(both, byReg(api.OpAdd, 3, 4)), of(t, two, ranged(x, 1, 7), ranged(y, 1, 2), cons(con(x, y, 5), con(y, x, 0))))
	wantIs(t, doing(both, byReg(api.OpMod, 3, 4)), of(t, two, ranged(x, 0, 1), ranged(y, 1, 2), cons(con(x, y, -1))))

	long := of(t, tags{x: kind(api.KindCtx), y: num()}, exactly(x, 0), same(y, 1), ranged(1, 0, 100))
	wantIs(t, doing(long, byReg(api.OpAdd, 3, 4)), of(t, tags{x: kind(api.KindCtx), y: num()}, same(x, 1), same(x, y), ranged(1, 0, 100)))

	wantTrap(t, api.TrapBounds, doing(of(t, ctx, exactly(x, 0), ranged(1, 0, 100)), loading(1, 4, 3, 0)))
	inside := cons(con(x, 1, -1), con(0, x, 0))
	wantIs(t, doing(of(t, ctx, inside), loading(1, 4, 3, 0)), of(t, tags{x: kind(api.KindCtx), y: num()}, inside, ranged(y, 0, 255)))

	wantTrap(t, api.TrapKind, doing(of(t, n), loading(1, 4, 3, 0)))
	wantTrap(t, api.TrapDiv, doing(of(t, two), byReg(api.OpDiv, 4, 3)))

	nine := of(t, n, ranged(x, 0, 9))
	wantIs(t, doing(nine, storing(8, 10, -8, 3)), of(t, tags{x: num(), slot31: num()}, ranged(x, 0, 9), same(x, slot31)))
	wantIs(t, doing(nine, storing(4, 10, -4, 3)), of(t, tags{x: num(), slot31: mask(240)}, ranged(x, 0, 9)))
	wantTrap(t, api.TrapInit, doing(nine, loading(8, 4, 10, -8)))

	stack := of(t, tags{x: kind(api.KindStack)}, exactly(x, 0))
	wantIs(t, doing(stack, storing(8, 10, -8, 3)), of(t, tags{x: kind(api.KindStack), slot31: kind(api.KindStack)}, exactly(x, 0), same(x, slot31)))
	wantTrap(t, api.TrapLeak, doing(stack, storing(4, 10, -8, 3)))

	open := of(t, two, ranged(y, 0, 9))
	wantIs(t, taking(open, byReg(api.OpJlt, 3, 4), true), of(t, two, ranged(y, 0, 9), ranged(x, 0, 8), cons(con(x, y, -1))))
	wantSame(t, taking(open, byReg(api.OpJlt, 3, 4), false))

	ends := tags{x: kind(api.KindCtx), y: kind(api.KindCtx)}
	wantIs(t, taking(of(t, ends, cons(con(x, y, 0))), byReg(api.OpJeq, 3, 4), false), of(t, ends, cons(con(x, y, -1))))

	perhaps := of(t, tags{x: maybe(0)})
	wantIs(t, taking(perhaps, byImm(api.OpJeq, 3, 0), true), of(t, n, exactly(x, 0)))
	wantIs(t, taking(perhaps, byImm(api.OpJeq, 3, 0), false), of(t, tags{x: row(0)}, exactly(x, 0)))

	asked := of(t, tags{3: num(), 4: num()}, exactly(3, 0), ranged(4, 0, 3))
	wantIs(t, doing(asked, calling(api.HelpRow)), of(t, tags{r0: row(0)}, exactly(r0, 0)))
	p := program()
	p.Tables[0].Rows = 3
	if s, e := doing(asked, calling(api.HelpRow)).held(t, p); e != api.OK || !alike(s, of(t, tags{r0: maybe(0)})) {
		t.Errorf("of a table with 3 rows: %s, %v", told(s), e)
	}
}

// TestRefused (P10.1): each error by itself and each two at once, over live and dead shapes, ahead of all traps.
func TestRefused(t *testing.T) {
	jump, data := api.Ins{Op: api.OpJa}, api.Ins{Op: api.OpData, Dst: 3, Imm: 17}
	wrong := map[api.Errno]func(i *api.Ins){
		api.ErrOp:    func(i *api.Ins) { i.Size = 3 },
		api.ErrReg:   func(i *api.Ins) { i.Dst = 11 },
		api.ErrField: func(i *api.Ins) { i.Off = 1 << 15 },
		api.ErrImm:   func(i *api.Ins) { i.Imm = -1 << 31 << 8 },
	}
	for _, s := range []*shape.Shape{of(t, nil), of(t, tags{x: num()}, ranged(x, 0, 5)), shape.Dead()} {
		for _, taken := range []bool{true, false} {
			wantTrap(t, api.ErrArg, taking(s, byImm(api.OpAdd, 3, 1), taken))
			wantTrap(t, api.ErrArg, taking(s, data, taken)) // ErrData is Do's
			for op := api.OpAdd; op <= api.OpExit; op++ {
				i := plain(op)
				is := op >= api.OpJa && op <= api.OpJset
				if !is {
					wantTrap(t, api.ErrArg, taking(s, i, taken))
					continue
				}
				wantTrap(t, api.ErrArg, doing(s, i))
			}
		}
		wantTrap(t, api.ErrData, doing(s, data))
		wantTrap(t, api.ErrOp, doing(s, api.Ins{}))
		wantTrap(t, api.ErrOp, taking(s, api.Ins{Op: api.OpExit + 1}, true))
		for e, spoil := range wrong {
			for _, i := range []api.Ins{byImm(api.OpJeq, 3, 1), data, byImm(api.OpMov, 3, 1)} {
				if spoil(&i); e == api.ErrField && i.Op != api.OpJeq {
					i.Off = 1
				}
				wantTrap(t, e, doing(s, i))
				wantTrap(t, e, taking(s, i, true))
				wantTrap(t, e, taking(s, i, false))
			}
		}
		i := jump
		i.Dst = 1
		wantTrap(t, api.ErrField, doing(s, i))
		wantTrap(t, api.ErrField, taking(s, i, false))
	}
}

// plain is an instruction of an operation that is right.
func plain(op int) api.Ins {
	i := api.Ins{Op: op}
	switch op {
	case api.OpDiv, api.OpMod, api.OpSdiv, api.OpSmod:
		i.Imm = 1
	case api.OpMovs:
		i.Reg, i.Size = true, 8
	case api.OpLe, api.OpBe, api.OpBswap:
		i.Size = 16
	case api.OpLoad, api.OpLoads, api.OpStore, api.OpAtom:
		i.Size = 4
	}
	return i
}

// TestDead (P10.1, P10.2): of a dead shape the dead one, whatever would trap otherwise; it is not the same one.
func TestDead(t *testing.T) {
	dead := shape.Dead()
	for op := api.OpAdd; op <= api.OpExit; op++ {
		i := plain(op)
		l := []call{doing(dead, i)}
		if op >= api.OpJa && op <= api.OpJset {
			l = []call{taking(dead, i, true), taking(dead, i, false)}
		}
		for _, c := range l {
			wantDead(t, c)
			if s, _ := c.of(program()); s == dead || s.Zone == dead.Zone {
				t.Errorf("%s: the shape that was handed in", c.told())
			}
		}
	}
	wantDead(t, doing(dead, calling(99)))
	wantDead(t, doing(dead, api.Ins{Op: api.OpData, Imm: 16}))
	wantDead(t, doing(dead, narrow(byReg(api.OpDiv, 3, 10))))
}

// TestEmptied (P10.2): where no assignment is left on the way, the answer is the dead shape, and no trap. (Of the crossed shape there was none, but its zone did not say so.)
func TestEmptied(t *testing.T) {
	for _, k := range []api.Tag{num(), kind(api.KindCtx), row(1)} {
		s := crossed(t, k)
		wantDead(t, doing(s, byReg(api.OpAdd, 3, 4)))
		wantDead(t, doing(s, byReg(api.OpSub, 3, 4)))
		wantDead(t, doing(s, byReg(api.OpAdd, 4, 3)))
	}
	five := of(t, tags{x: num(), y: num()}, ranged(x, 0, 5), ranged(y, 6, 9))
	wantDead(t, taking(five, byImm(api.OpJeq, 3, 6), true))
	wantDead(t, taking(five, byReg(api.OpJsgt, 3, 4), true))
	wantDead(t, taking(five, byReg(api.OpJne, 3, 3), true))
}

func zoned(t *testing.T, cs ...api.Con) *zone.Zone {
	t.Helper()
	z, e := zone.New().With(cs...)
	if e != api.OK {
		t.Fatal(e)
	}
	return z
}
