package check_test

import (
	"math"
	"slices"
	"testing"

	"warrant/api"
	"warrant/check"
	"warrant/mach"
	"warrant/shape"
)

// inputs are some that a program takes: contexts of Lo bytes, of Hi, and between, and tables.
func (d dice) inputs(p api.Program) []api.Input {
	var l []api.Input
	for _, n := range []int{p.Lo, p.Hi, p.Lo + d.Intn(p.Hi-p.Lo+1), p.Lo + d.Intn(p.Hi-p.Lo+1)} {
		in := api.Input{Ctx: make([]byte, n)}
		for _, table := range p.Tables {
			in.Tables = append(in.Tables, make([]byte, table.Rows*table.Wide))
		}
		for _, b := range append(in.Tables, in.Ctx) {
			for k := range b {
				b[k] = byte(d.Intn(256) * d.Intn(2))
			}
		}
		l = append(l, in)
	}
	return l
}

// any is a number that a ghost may have where none is asked for.
func (d dice) any() int {
	return among(d, 0, d.Intn(100)-50, int(d.Uint64()), math.MinInt, math.MaxInt)
}

// run is a run of a proven program, with its ghosts.
type run struct {
	dice
	c      pair
	v      *check.Proven
	before []*shape.Shape
	heads  map[int]int // the loops, by the first instructions of their heads
	ghosts []int
}

func (c pair) running(d dice, v *check.Proven) *run {
	r := &run{d, c, v, nil, map[int]int{}, make([]int, 16)}
	for i := range c.p.Code {
		r.before = append(r.before, v.Before(i))
	}
	blocks := v.Flow().Blocks()
	for h, l := range v.Flow().Loops() {
		r.heads[blocks[l.Head].From] = h
	}
	return r
}

// held is what a variable that a loop names holds: a number, a pointer's offset, or any number.
func (r *run) held(st api.State, v int) int {
	switch {
	case v == 0:
		return 0
	case v == ln:
		return len(st.Ctx)
	case v < slot0:
		if held := st.Regs[v-r0]; held.Kind != api.KindNone {
			return held.X
		}
		return r.any()
	}
	slot := st.Stack[v-slot0]
	if slot.Ptr.Kind != api.KindNone {
		return slot.Ptr.X
	}
	if slot.Mask != 255 {
		return r.any()
	}
	n := 0
	for k, b := range slot.Bytes {
		n |= int(b) << (8 * k)
	}
	return n
}

// goes runs the program for so many steps at most: each state is of the shape ahead of its instruction, with the ghosts as the run sets them, and nothing traps.
func (r *run) goes(t *testing.T, in api.Input, steps int) (at []int) {
	t.Helper()
	m, e := mach.New(r.c.p, in)
	if e != api.OK {
		t.Fatalf("%stakes no input: %v", r.c.told(), e)
	}
	for n := range r.ghosts {
		r.ghosts[n] = r.any()
	}
	for range steps {
		st := m.State()
		if h, is := r.heads[st.At]; is {
			l := r.c.d.Loops[h]
			r.ghosts[2*h], r.ghosts[2*h+1] = r.held(st, l.A), r.held(st, l.B)
		}
		at = append(at, st.At)
		if s := r.before[st.At]; s.Dead() || !s.Holds(st, r.ghosts) {
			t.Fatalf("%s%s is not of %s", r.c.told(), shown(st, r.ghosts), told(s))
		}
		if e := m.Step(); e != api.OK {
			t.Fatalf("%sis proven, and traps: %v, %s", r.c.told(), e, shown(st, r.ghosts))
		}
		if m.State().Done {
			break
		}
	}
	return at
}

// TestRuns (P13.3, P13.1): runs of what is proven, whoever made the warrant: found, and turned in any way that holds yet.
func TestRuns(t *testing.T) {
	t.Parallel()
	proven, turned, looped, ended := 0, 0, 0, 0
	for seed := range 120 {
		d := rolling(1000 + seed)
		c := d.grown(t, d.program(t))
		if v, _ := check.Check(c.p, c.d); v == nil {
			continue
		}
		proven++
		all := []pair{c}
		for range 30 {
			if other := d.turned(among(d, all...)); len(all) < 5 {
				if v, _ := check.Check(other.p, other.d); v != nil {
					all = append(all, other)
				}
			}
		}
		turned += len(all) - 1
		for _, c := range all {
			v, _ := check.Check(c.p, c.d)
			r := c.running(d, v)
			for _, in := range d.inputs(c.p) {
				at := r.goes(t, in, 250)
				if slices.ContainsFunc(at[1:], func(i int) bool { _, is := r.heads[i]; return is }) {
					looped++
				}
				if c.p.Code[at[len(at)-1]].Op == api.OpExit {
					ended++
				}
			}
		}
	}
	if proven < 70 || turned < 150 || looped < 300 || ended < 300 {
		t.Errorf("%d were proven, %d turned; %d runs looped, %d ended", proven, turned, looped, ended)
	}
}

// TestExampleRuns (P13.3): the example, at each length that it takes.
func TestExampleRuns(t *testing.T) {
	c := summing(t)
	d := rolling(7)
	r := c.running(d, c.wantProven(t))
	for n := range 101 {
		in := api.Input{Ctx: make([]byte, n)}
		d.Read(in.Ctx)
		if at := r.goes(t, in, 10000); len(at) != 3+n*5+2 || at[len(at)-1] != 8 {
			t.Fatalf("%d bytes: %d steps", n, len(at))
		}
	}
}

// TestTrapsAreFound (P13.3): a program of which a run traps is not proven, whatever the warrant says.
func TestTrapsAreFound(t *testing.T) {
	t.Parallel()
	trapped, refused := 0, 0
	for seed := range 120 {
		d := rolling(2000 + seed)
		c := d.grown(t, d.program(t))
		for range 4 {
			other := d.turned(c)
			v, fault := check.Check(other.p, other.d)
			if fault.Class == api.ErrProgram || fault.Class == api.ErrCFG {
				continue
			}
			for _, in := range d.inputs(other.p) {
				m, e := mach.New(other.p, in)
				if e != api.OK {
					t.Fatal(e)
				}
				if _, e = m.Run(1000); e == api.OK || e == api.TrapFuel {
					continue
				}
				trapped++
				if v != nil {
					t.Fatalf("%sis proven, and traps: %v", other.told(), e)
				}
			}
			if v == nil {
				refused++
			}
		}
	}
	if trapped < 50 || refused < 200 {
		t.Errorf("%d runs trapped, %d pairs were refused", trapped, refused)
	}
}
