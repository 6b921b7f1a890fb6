package mach_test

import (
	"testing"

	"warrant/api"
	"warrant/mach"
)

// sample are programs that leave, that trap, and that go round for ever; each with how many steps there are, and what is said then.
type sample struct {
	what  string
	lines []string
	steps int
	end   api.Errno
}

func samples() []sample {
	return []sample{
		{"the shortest", []string{"r0 = 5", "exit"}, 2, api.OK},
		{"a sum", []string{"r0 = 0", "top: r4 = u8 [r1]", "r0 += r4", "r1 += 1", "r2 -= 1", "if r2 != 0 goto top", "exit"}, 2 + 5*21, api.OK},
		{"one that writes", []string{"u8 [r1] = 7", "r1 = 4", "call 6", "u64 [r10 - 8] = r0", "exit"}, 5, api.OK},
		{"one of rows", []string{"r6 = r2", "r1 = 1", "r2 = 1", "call 7", "u32 [r0] = r6", "r0 = 3", "exit"}, 7, api.OK},
		{"a trap at once", []string{"r0 = r3", "exit"}, 0, api.TrapKind},
		{"a trap behind two", []string{"r0 = 5", "u8 [r1 + 3] = 9", "r3 = u8 [r10 - 1]", "exit"}, 2, api.TrapInit},
		{"a trap in a loop", []string{"r0 = 0", "top: r4 = u8 [r1]", "r1 += 1", "goto top", "exit"}, 1 + 3*21, api.TrapBounds},
		{"a trap at the end", []string{"r3 = 5", "exit"}, 1, api.TrapLeak},
		{"no exit", []string{"r0 = 5", "r0 += 1"}, 1, api.TrapJump},
		{"one that goes round", []string{"r0 = 5", "top: r0 += 1", "goto top"}, most, api.TrapFuel},
	}
}

// begun is a sample's machine, on the roomy program's input, and its twin, which has gone so many steps.
func (c sample) begun(t *testing.T, n int) (*mach.Machine, twin) {
	t.Helper()
	p := roomy(parsed(t, c.lines...))
	w := paired(t, p, filled(p))
	for range min(n, c.steps) {
		var e api.Errno
		if w.o, e = w.o.step(); e != api.OK {
			t.Fatalf("%s: the twin has %v", c.what, e)
		}
	}
	return w.m, w.o
}

// wantRun: Run answers what the twin has left, if there is fuel enough and it ends; else what it should; and the state is the twin's.
func (c sample) wantRun(t *testing.T, m *mach.Machine, o twin, fuel int, want api.Errno) {
	t.Helper()
	out, e := m.Run(fuel)
	left := api.Output{}
	if want == api.OK {
		left = o.output()
	}
	if e != want || !alike(out, left) {
		t.Errorf("%s: Run(%d) = %v, %v; want %v, %v", c.what, fuel, out, e, left, want)
	}
	if s := m.State(); !same(s, o.state()) {
		t.Errorf("%s: behind Run(%d)%s; want%s", c.what, fuel, shown(s), shown(o.state()))
	}
}

// said is what a run says that was given so much fuel in all.
func (c sample) said(fuel int) api.Errno {
	switch {
	case fuel < c.steps, c.end != api.OK && fuel <= c.steps:
		return api.TrapFuel
	}
	return c.end
}

// TestRun (P8.4): fuels below 1, 0, one too few, just enough, one more, and greatest.
func TestRun(t *testing.T) {
	for _, c := range samples() {
		for _, fuel := range []int{least, -1 << 40, -1, 0} {
			m, o := c.begun(t, 0)
			c.wantRun(t, m, o, fuel, api.TrapFuel)
		}
		fuels := []int{1, 2, 3, 50}
		if c.end != api.TrapFuel {
			fuels = append(fuels, c.steps-1, c.steps, c.steps+1, c.steps+2, 1<<32, most-1, most)
		}
		for _, fuel := range fuels {
			if fuel < 1 {
				continue
			}
			m, o := c.begun(t, fuel)
			want := c.said(fuel)
			c.wantRun(t, m, o, fuel, want)
			// asked on, with no fuel: what has left tells it again, all else has none
			again := want
			if want != api.OK {
				again = api.TrapFuel
			}
			for _, none := range []int{0, -1, least} {
				c.wantRun(t, m, o, none, again)
			}
			if want == api.TrapFuel {
				continue
			}
			for _, more := range []int{1, 2, most} {
				c.wantRun(t, m, o, more, want)
			}
		}
	}
}

// TestInPieces (P8.5): Run in pieces is Run at once, and Step as often; asking State turns nothing.
func TestInPieces(t *testing.T) {
	d := rolling(1)
	for _, c := range samples() {
		for range 25 {
			m, _ := c.begun(t, 0)
			fuel := 0
			for fuel < 150 {
				piece := among(d, 0, 1, 1, 2, 3, 7, d.Intn(50), -1)
				fuel += max(0, piece)
				_, o := c.begun(t, fuel)
				want := c.said(fuel)
				if want != api.OK && piece < 1 {
					want = api.TrapFuel
				}
				c.wantRun(t, m, o, piece, want)
				for range d.Intn(3) {
					m.State()
				}
				if d.Intn(4) == 0 {
					fuel++
					stepped(t, c, m, fuel)
				}
			}
		}
	}
}

// stepped does one step more; the fuel is that of all steps with it.
func stepped(t *testing.T, c sample, m *mach.Machine, fuel int) {
	t.Helper()
	_, o := c.begun(t, fuel)
	want := api.OK
	if fuel > c.steps {
		want = c.end
		if c.end == api.OK {
			want = api.ErrDone
		}
	}
	if e := m.Step(); e != want {
		t.Errorf("%s: the step %d: %v; want %v", c.what, fuel, e, want)
	}
	if s := m.State(); !same(s, o.state()) {
		t.Errorf("%s: behind the step %d%s; want%s", c.what, fuel, shown(s), shown(o.state()))
	}
}

// TestSums (P8.5): Run(a) and then Run(b) are Run(a + b), for every a and b of a program's few steps.
func TestSums(t *testing.T) {
	for _, c := range samples() {
		for a := range 9 {
			for b := range 9 {
				m, o := c.begun(t, a)
				if c.said(a) != api.TrapFuel {
					continue
				}
				c.wantRun(t, m, o, a, api.TrapFuel)
				_, o = c.begun(t, a+b)
				c.wantRun(t, m, o, b, c.said(a+b))
			}
		}
	}
}

// TestSteps (P8.2, P8.5): step by step, each state and each trap; a machine that has left says ErrDone, one that has trapped traps again.
func TestSteps(t *testing.T) {
	for _, c := range samples() {
		m, _ := c.begun(t, 0)
		for n := 1; n < 140; n++ {
			stepped(t, c, m, n)
		}
	}
}

// TestDone (P8.2, P8.4): behind exit there is no step more, and Run tells what was left with any fuel.
func TestDone(t *testing.T) {
	for _, c := range samples() {
		if c.end != api.OK {
			continue
		}
		m, o := c.begun(t, c.steps)
		for range c.steps {
			if s := m.State(); s.Done {
				t.Errorf("%s: done ahead of its exit", c.what)
			}
			if e := m.Step(); e != api.OK {
				t.Fatal(e)
			}
		}
		for _, fuel := range []int{0, 1, -1, least, most} {
			if e := m.Step(); e != api.ErrDone {
				t.Errorf("%s: Step = %v; want %v", c.what, e, api.ErrDone)
			}
			c.wantRun(t, m, o, fuel, api.OK)
		}
		s := m.State()
		if code := parsed(t, c.lines...); !s.Done || code[s.At].Op != api.OpExit || s.Steps != c.steps {
			t.Errorf("%s: the state is%s", c.what, shown(s))
		}
	}
}

// TestFar: a run of many steps, and one more.
func TestFar(t *testing.T) {
	w := small(t, "r0 = 0", "top: r0 += 1", "if r0 != 100000 goto top", "exit")
	w.wantStop(200001, api.TrapFuel)
	w.wantRun(1, 100000, 3, 250, 7)
	if s := w.m.State(); s.Steps != 200002 || s.At != 3 || !s.Done {
		t.Errorf("the state is%s", shown(s))
	}
}
