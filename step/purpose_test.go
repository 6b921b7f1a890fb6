package step_test

import (
	"math"
	"slices"
	"testing"

	"warrant/api"
	"warrant/asm"
	"warrant/mach"
	"warrant/shape"
)

// sample is a program that the plain machine has run so far, the state that it is in, and ghosts.
type sample struct {
	p      api.Program // its code goes straight on
	in     api.Input
	st     api.State
	ghosts []int
}

// ran is the machine, and its state, behind all of a sample's code and, if it lets that through, one instruction more.
func (a sample) ran(t *testing.T, i api.Ins) (api.State, api.Errno) {
	t.Helper()
	exit := api.Ins{Op: api.OpExit}
	a.p.Code = append(slices.Clone(a.p.Code), i, exit, exit) // so that each jump has where to go
	m, e := mach.New(a.p, a.in)
	if e != api.OK {
		t.Fatal(e, spelt(i))
	}
	for range len(a.p.Code) - 3 {
		if e := m.Step(); e != api.OK {
			t.Fatal(e)
		}
	}
	e = m.Step()
	return m.State(), e
}

// begun is a sample whose registers and slots hold something of all sorts.
func (d dice) begun(t *testing.T) sample {
	t.Helper()
	a := sample{p: program(), ghosts: make([]int, 16)}
	a.in.Ctx = make([]byte, d.Intn(24))
	for _, table := range a.p.Tables {
		a.in.Tables = append(a.in.Tables, make([]byte, table.Rows*table.Wide))
	}
	for _, b := range append(a.in.Tables, a.in.Ctx, a.p.Data) {
		for n := range b {
			b[n] = byte(d.Intn(256) * d.Intn(2))
		}
	}
	for n := range a.ghosts {
		a.ghosts[n] = among(d, 0, d.Intn(9)-4, d.edge(), math.MinInt, math.MaxInt)
	}
	text := "r6 = r1\nr8 = r2\nr1 = 0\nr2 = 1\ncall 7\nr7 = r0\nr1 = 1\nr2 = 5\ncall 7\nu64 [r10 - 16] = r0\nu64 [r10 - 24] = r6\nr9 = r10\nr9 += -64\nu64 [r9] = r9\nr1 = r9\nr1 += 8\nr2 = 3\nr3 = 20\ncall 3\nu64 [r10 - 8] = 7\nr1 = r6\nr2 = 9\nr4 = data 4\nr3 = r9"
	l, line, e := asm.Parse(text)
	if e != api.OK {
		t.Fatal(line, e)
	}
	a.p.Code = l
	for range d.Intn(6) {
		a.p.Code = append(a.p.Code, api.Ins{Op: api.OpWide, Dst: d.Intn(6), Imm: d.number()})
	}
	a.st, _ = a.ran(t, api.Ins{Op: api.OpJa})
	return a
}

func (d dice) number() int {
	return among(d, 0, 1, d.Intn(10), d.Intn(300), d.edge(), d.edge(), math.MaxInt-d.Intn(3), math.MinInt+d.Intn(3), int(d.Uint64()))
}

// numberOf is the number of a variable that has one.
func (a sample) numberOf(v int) int {
	switch {
	case v == 0:
		return 0
	case v == 1:
		return len(a.st.Ctx)
	case v < slot0:
		return a.st.Regs[v-r0].X
	case v > slot31:
		return a.ghosts[v-44]
	}
	s := a.st.Stack[v-slot0]
	if s.Ptr.Kind != api.KindNone {
		return s.Ptr.X
	}
	n := 0
	for k, b := range s.Bytes {
		n |= int(b) << (8 * k)
	}
	return n
}

// tagOf is a tag that suits what a register or a slot holds: most often the one that says most.
func (a sample) tagOf(d dice, v int) api.Tag {
	held, bits := api.Value{}, 0
	if v < slot0 {
		held = a.st.Regs[v-r0]
	} else if s := a.st.Stack[v-slot0]; s.Mask == 255 {
		held, bits = api.Value{Kind: api.KindNum, X: a.numberOf(v)}, 255
	} else {
		held, bits = s.Ptr, s.Mask
	}
	null := held.X == 0 && (held.Kind == api.KindNum || held.Kind == api.KindRow)
	switch {
	case null && d.Intn(5) == 0:
		return maybe(held.Table)
	case held.Kind == api.KindNone, v >= slot0 && d.Intn(4) == 0, d.Intn(12) == 0:
		return mask(bits)
	}
	return api.Tag{Kind: held.Kind, Table: held.Table}
}

// around is a shape that the state is one of: its bounds are often reached.
func (a sample) around(t *testing.T, d dice) *shape.Shape {
	t.Helper()
	l := tags{}
	for v := r0; v <= slot31; v++ {
		l[v] = a.tagOf(d, v)
	}
	valued := func(v int) bool { return v < r0 || v > slot31 || has(l[v]) }
	var cs []api.Con
	bind := func(i, j, slack int) {
		if i == j || !valued(i) || !valued(j) {
			return
		}
		less := sum(whole(a.numberOf(i)), whole(slack))
		if less = less.Sub(less, whole(a.numberOf(j))); atMost(whole(-most), less) && atMost(less, whole(most)) {
			cs = append(cs, con(i, j, int(less.Int64())))
		}
	}
	for _, v := range []int{1, 2, 3, 4, 5, 6, 7, 8, 9, 10, 11, slot31, slot31 - 1, slot31 - 7, slot31 - 6} {
		if d.Intn(6) > 0 {
			bind(v, 0, among(d, 0, 0, 0, 1, 3, 30))
		}
		if d.Intn(6) > 0 {
			bind(0, v, among(d, 0, 0, 0, 1, 3, 30))
		}
	}
	for range d.Intn(12) {
		bind(among(d, linked()...), among(d, linked()...), among(d, 0, 0, 1, d.Intn(9), 1<<20))
	}
	if d.Intn(2) == 0 {
		bind(8, 1, 0) // the context and its length
	}
	s := of(t, l, cs)
	if d.Intn(6) == 0 {
		s = s.Wider(a.around(t, d))
	}
	if !s.Holds(a.st, a.ghosts) {
		t.Fatalf("%s does not hold %s", told(s), shown(a.st, a.ghosts))
	}
	return s
}

// wantFollowed (P10.10): an instruction over a shape of the state: if it is let through, the machine does not trap, and the state behind is of the answer.
func (a sample) wantFollowed(t *testing.T, s *shape.Shape, i api.Ins) (behind *shape.Shape, free bool) {
	t.Helper()
	st, trap := a.ran(t, i)
	if i.Op < api.OpJa || i.Op > api.OpJset {
		c := doing(s, i)
		now, e := c.of(a.p)
		if e == api.OK && (trap != api.OK || !now.Holds(st, a.ghosts)) {
			t.Fatalf("%s: %s; but %s becomes %s, with %v", c.told(), told(now), shown(a.st, a.ghosts), shown(st, a.ghosts), trap)
		}
		return now, e == api.OK
	}
	for _, taken := range []bool{true, false} {
		c := taking(s, i, taken)
		now, e := c.of(a.p)
		if e != api.OK {
			continue
		}
		if trap != api.OK {
			t.Fatalf("%s: %s; but of %s: %v", c.told(), told(now), shown(a.st, a.ghosts), trap)
		}
		if goes := st.At == len(a.p.Code)+2; goes == taken {
			if !now.Holds(st, a.ghosts) {
				t.Fatalf("%s: %s; but %s goes that edge, and is %s", c.told(), told(now), shown(a.st, a.ghosts), shown(st, a.ghosts))
			}
			behind, free = now, true
		}
	}
	return behind, free
}

// TestFollowed (P10.10): drawn programs go along with shapes of their states, instruction by instruction.
func TestFollowed(t *testing.T) {
	through := map[int]int{}
	carried, refused := 0, 0
	for seed := range 40 {
		d := rolling(100 + seed)
		a := d.begun(t)
		s := a.around(t, d)
		for len(a.p.Code) < 70 {
			for range 6 {
				other := a.around(t, d)
				c := d.call(a.p, other)
				if c.i.Op == api.OpJa {
					c.i.Off = 1 // as of all other jumps that are drawn: each edge leads to an instruction of its own
				}
				if c.i.Op == api.OpData && c.i.Imm > len(a.p.Data) {
					continue
				}
				if _, is := a.wantFollowed(t, other, c.i); is {
					through[c.i.Op]++
				} else {
					refused++
				}
			}
			i := d.call(a.p, s).i
			if i.Op >= api.OpJa && i.Op <= api.OpJset || i.Op == api.OpExit || i.Op == api.OpData && i.Imm > len(a.p.Data) {
				continue
			}
			st, trap := a.ran(t, i)
			if trap != api.OK {
				continue
			}
			behind, is := a.wantFollowed(t, s, i)
			a.p.Code, a.st = append(a.p.Code, i), st
			if s = behind; is {
				carried++
			} else {
				s = a.around(t, d)
			}
		}
	}
	for op := api.OpAdd; op <= api.OpExit; op++ {
		if through[op] < 15 {
			t.Errorf("the operation %d was let through %d times", op, through[op])
		}
	}
	if carried < 500 || refused < 500 {
		t.Errorf("%d went along, %d were refused", carried, refused)
	}
}
