package step_test

import (
	"math"
	"math/rand"
	"testing"

	"warrant/api"
	"warrant/shape"
	"warrant/zone"
)

// dice draws shapes and instructions.
type dice struct{ *rand.Rand }

func rolling(seed int) dice { return dice{rand.New(rand.NewSource(int64(seed)))} }

func among[T any](d dice, l ...T) T { return l[d.Intn(len(l))] }

// edge is a number at which a rule changes, or near it.
func (d dice) edge() int {
	e := among(d, 0, 0, 0, 1, 8, 127, 128, 255, 256, 1<<15, 1<<16-1, 1<<31-1, 1<<31, 1<<32-1, 1<<32, api.MaxOff, most, -1, -128, -1<<31, -api.MaxOff, -most)
	return max(-most, min(e+max(0, d.Intn(6)-3)-max(0, d.Intn(6)-3), most))
}

// offset is one that a pointer into a region often has.
func (d dice) offset(k int) int {
	switch {
	case d.Intn(12) == 0:
		return d.edge()
	case k == api.KindStack:
		return among(d, 0, 8, 16, 240, 248, d.Intn(260), d.Intn(33)*8)
	}
	return d.Intn(12)
}

// tag is one of a register, or of a slot.
func (d dice) tag(slot bool) api.Tag {
	k := among(d, api.KindNum, api.KindNum, api.KindNum, api.KindNum, api.KindStack, api.KindStack, api.KindCtx, api.KindCtx, api.KindData, api.KindRow, api.KindRow, api.KindMaybe, api.KindNone)
	t := kind(k)
	if k == api.KindRow || k == api.KindMaybe {
		t.Table = among(d, 0, 0, 1, 1, 2)
	}
	if k == api.KindNone && slot {
		t.Mask = among(d, 0, 1, 15, 240, 254, 255, 255)
	}
	return t
}

// about is the range of a variable of such a kind: one number, a few, or without an end.
func (d dice) about(v int, k int) []api.Con {
	lo := d.edge()
	if k != api.KindNum || d.Intn(3) == 0 {
		lo = d.offset(k)
	}
	hi := min(most, lo+among(d, 0, 0, 1, 3, 8, 40))
	switch d.Intn(7) {
	case 0:
		return from(v, lo)
	case 1:
		return upTo(v, hi)
	case 2:
		return nil
	}
	return ranged(v, lo, hi)
}

// linked are the variables that are often bound to one another.
func linked() []int { return []int{0, 1, 1, r0, r1, r2, x, y, z, 8, slot0, slot31, 44, 59} }

// shape is any shape that is not dead.
func (d dice) shape(t *testing.T) *shape.Shape {
	t.Helper()
	l := tags{}
	for v := r0; v < slot0; v++ {
		l[v] = d.tag(false)
	}
	full := d.Intn(3) == 0
	for v := slot0; v <= slot31; v++ {
		if full || v < slot0+4 || v > slot31-3 {
			l[v] = d.tag(true)
			if full && d.Intn(6) > 0 {
				l[v] = among(d, num(), mask(255))
			}
		}
	}
	way := zone.New()
	add := func(cs []api.Con) {
		if now, e := way.With(cs...); e == api.OK && !now.Empty() {
			way = now
		}
	}
	add(from(1, d.Intn(12)))
	for v := r0; v < slot0; v++ {
		if has(l[v]) {
			add(d.about(v, l[v].Kind))
		}
	}
	for range d.Intn(8) {
		i, j := among(d, linked()...), among(d, linked()...)
		if v := l[i]; i > 1 && i < 44 && !has(v) {
			continue
		}
		if v := l[j]; j > 1 && j < 44 && !has(v) || i == j {
			continue
		}
		add(cons(con(i, j, among(d, 0, 0, -1, 1, d.Intn(12)-9, d.edge()))))
	}
	c := claim(l, way.Cons()...)
	s, e := shape.Make(c.Regs, c.Stack, way)
	if e != api.OK || s.Dead() {
		t.Fatal(listed(c), e)
	}
	return s
}

// some is a shape, closed or not.
func (d dice) some(t *testing.T) *shape.Shape {
	t.Helper()
	s := d.shape(t)
	switch d.Intn(12) {
	case 0:
		return s.Wider(d.shape(t))
	case 1:
		return s.Wider(d.after(t, s))
	case 2:
		return s.Both(d.after(t, s))
	case 3:
		return crossed(t, d.tag(false))
	case 4:
		if d.Intn(4) == 0 {
			return shape.Dead()
		}
	}
	return s
}

// after is a shape with the same tags and other bounds.
func (d dice) after(t *testing.T, s *shape.Shape) *shape.Shape {
	t.Helper()
	way, e := s.With()
	for v := r0; v < slot0; v++ {
		if has(s.Tag(v)) && d.Intn(3) == 0 {
			way = way.Forget(v)
			now, f := way.With(d.about(v, s.Tag(v).Kind)...)
			if way, e = now, f; e != api.OK {
				t.Fatal(e)
			}
		}
	}
	c := s.Claim()
	now, e := shape.Make(c.Regs, c.Stack, way)
	if e != api.OK {
		t.Fatal(e)
	}
	return now
}

// crossed is a shape of no state whose zone is not the empty one: r4 is 0 at least, and -7 at most; r3 is 3, of a tag.
func crossed(t *testing.T, k api.Tag) *shape.Shape {
	t.Helper()
	const p, w = 7, 8
	way := zoned(t, con(p, 0, 0), con(0, y, 0), con(y, w, 3), con(p, y, -5), con(p, w, -20), con(0, w, 1))
	way = way.Widen(zoned(t, con(p, 0, 0), con(0, y, 0), con(y, w, 3))) // these three alone, and nothing that follows
	way, e := way.With(con(w, p, -10))
	if e != api.OK {
		t.Fatal(e)
	}
	if has(k) {
		if way, e = way.Assign(x, 0, 3); e != api.OK {
			t.Fatal(e)
		}
	}
	c := claim(tags{x: k, y: num(), p: num(), w: num()})
	s, e := shape.Make(c.Regs, c.Stack, way)
	if e != api.OK || s.Dead() || s.Span(y) != (api.Span{Lo: 0, Hi: -7}) {
		t.Fatal(told(s), e)
	}
	return s
}

// reg is any register; often one of a few.
func (d dice) reg() int { return among(d, 0, 1, 2, 3, 3, 4, 4, 5, 6, d.Intn(11)) }

// dst is one that may be written.
func (d dice) dst() int { return min(9, d.reg()) }

// imm is a number of 32 bits.
func (d dice) imm() int { return int(int32(among(d, 0, 1, -1, 8, d.edge(), d.Intn(300)-20))) }

// second gives an instruction a second operand.
func (d dice) second(i api.Ins) api.Ins {
	if d.Intn(3) > 0 {
		i.Reg, i.Src = true, d.reg()
		return i
	}
	i.Imm = d.imm()
	switch i.Op {
	case api.OpLsh, api.OpRsh, api.OpArsh:
		i.Imm = d.Intn(32)
	case api.OpDiv, api.OpMod, api.OpSdiv, api.OpSmod:
		i.Imm = among(d, 1, -1, 7, 1<<31-1, -1<<31)
	}
	return i
}

// ins is an instruction that is right, of any operation.
func (d dice) ins() api.Ins {
	all := 1 + d.Intn(api.OpExit)
	switch op := among(d, api.OpMov, api.OpAdd, api.OpSub, api.OpCall, api.OpLoad, api.OpStore, api.OpAtom, all, all, all, all, all, all); op {
	case api.OpNeg:
		return api.Ins{Op: op, Dst: d.dst(), Narrow: d.Intn(2) == 0}
	case api.OpMovs:
		i := api.Ins{Op: op, Dst: d.dst(), Reg: true, Src: d.reg(), Size: among(d, 8, 16, 32)}
		i.Narrow = i.Size < 32 && d.Intn(2) == 0
		return i
	case api.OpLe, api.OpBe, api.OpBswap:
		return api.Ins{Op: op, Dst: d.dst(), Size: among(d, 16, 32, 64)}
	case api.OpWide:
		return api.Ins{Op: op, Dst: d.dst(), Imm: among(d, d.edge(), math.MaxInt, math.MinInt)}
	case api.OpData:
		return api.Ins{Op: op, Dst: d.dst(), Imm: among(d, 0, 8, 16, 17)}
	case api.OpLoad, api.OpLoads, api.OpStore, api.OpAtom:
		return d.access(op)
	case api.OpJa:
		return api.Ins{Op: op, Off: d.Intn(3)}
	case api.OpCall:
		return api.Ins{Op: op, Imm: among(d, d.Intn(10), 1+d.Intn(8), 1+d.Intn(5), api.HelpRow)}
	case api.OpExit:
		return api.Ins{Op: op}
	default:
		i := api.Ins{Op: op, Narrow: d.Intn(3) == 0, Dst: d.dst()}
		if op >= api.OpJeq && op <= api.OpJset {
			i.Dst = d.reg()
			i.Off = 1
		}
		return d.second(i)
	}
}

// access reads or writes memory.
func (d dice) access(op int) api.Ins {
	i := api.Ins{Op: op, Dst: among(d, d.reg(), 10), Src: among(d, d.reg(), 10), Size: among(d, 1, 2, 4, 8)}
	base := &i.Dst
	switch op {
	case api.OpLoad, api.OpLoads:
		i.Dst, base = d.dst(), &i.Src
		if op == api.OpLoads {
			i.Size = among(d, 1, 2, 4)
		}
	case api.OpStore:
		i.Src = 0
		i = d.second(i)
	case api.OpAtom:
		i.Size, i.Src, i.Imm = among(d, 4, 8), d.dst(), among(d, atoms()...)
	}
	i.Off = among(d, 0, 0, 1, 4, -8, d.Intn(24)-12)
	if *base == 10 {
		i.Off = among(d, -8, -16, -256, -4, -12, -1-d.Intn(40), -1-d.Intn(258))
	}
	return i
}

// call is a call of any instruction over a shape, on any edge if it jumps. Of those that are refused for their kinds most are drawn anew.
func (d dice) call(p api.Program, s *shape.Shape) call {
	var c call
	for range 8 {
		i := d.ins()
		c = doing(s, i)
		if i.Op >= api.OpJa && i.Op <= api.OpJset {
			c = taking(s, i, d.Intn(2) == 0)
		}
		if _, e := c.of(p); e != api.TrapKind && e != api.TrapCall || d.Intn(8) == 0 {
			break
		}
	}
	return c
}
