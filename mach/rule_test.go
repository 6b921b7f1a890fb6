package mach_test

import (
	"slices"
	"sync"
	"testing"

	"warrant/api"
	"warrant/code"
	"warrant/mach"
)

// busy is a program that reads and writes all that there is: data, both tables, the context, the stack; and sends.
func busy(t *testing.T) api.Program {
	t.Helper()
	return roomy(parsed(t,
		"r6 = r1", "r7 = data 3", "r0 = u8 [r7]", "u8 [r6 + 2] = r0", "u64 [r10 - 8] = r6", "u32 [r10 - 20] = r0",
		"r1 = 0", "r2 = 2", "call 7", "r8 = r0", "u16 [r8 + 4] = 0x1234", "r4 = u8 [r8]", "u8 [r6 + 3] = r4",
		"r1 = 1", "r2 = 0", "call 7", "r1 = r0", "r2 = r7", "r3 = 5", "call 2",
		"r1 = 77", "call 6", "r1 = 78", "call 6", "r9 = u8 [r6 + 20]", "r9 += 1", "r0 = r9", "exit"))
}

// spare is a list with room behind it that holds something.
func spare[T any](l []T, fill T) []T { return append(slices.Clone(l), fill, fill, fill)[:len(l)] }

// loose is a program and an input whose lists all have spare room, with other things in it.
func loose(t *testing.T) (p api.Program, in api.Input) {
	p = busy(t)
	in = filled(p)
	p.Code = spare(p.Code, api.Ins{Op: -1})
	p.Data = spare(p.Data, 0x11)
	p.Tables = spare(p.Tables, api.Table{Rows: -1})
	in.Ctx = spare(in.Ctx, 0x22)
	for n := range in.Tables {
		in.Tables[n] = spare(in.Tables[n], 0x33)
	}
	in.Tables = spare(in.Tables, []byte{0x44})
	return p, in
}

// image is all that the lists hold, spare room too.
func image(p api.Program, in api.Input) (api.Program, api.Input) {
	p.Code, p.Data, p.Tables = slices.Clone(whole(p.Code)), slices.Clone(whole(p.Data)), slices.Clone(whole(p.Tables))
	in.Ctx, in.Tables = slices.Clone(whole(in.Ctx)), slices.Clone(whole(in.Tables))
	for n := range in.Tables {
		in.Tables[n] = slices.Clone(whole(in.Tables[n]))
	}
	return p, in
}

func whole[T any](l []T) []T { return l[:cap(l)] }

// wantImage: the lists hold what they held.
func wantImage(t *testing.T, p, q api.Program, in, was api.Input) {
	t.Helper()
	p, in = image(p, in)
	if !slices.Equal(p.Code, q.Code) || !slices.Equal(p.Data, q.Data) || !slices.Equal(p.Tables, q.Tables) || !slices.Equal(in.Ctx, was.Ctx) || !equal(in.Tables, was.Tables) {
		t.Fatal("what was handed in was changed")
	}
}

// spoil writes into all that was handed in.
func spoil(p api.Program, in api.Input) {
	for n := range whole(p.Code) {
		whole(p.Code)[n] = api.Ins{Op: api.OpJa, Off: -1}
	}
	fill(p.Data, 0x99)
	for n := range whole(p.Tables) {
		whole(p.Tables)[n] = api.Table{Rows: 1, Wide: 1}
	}
	fill(in.Ctx, 0x99)
	for n := range whole(in.Tables) {
		fill(whole(in.Tables)[n], 0x99)
		whole(in.Tables)[n] = nil
	}
}

func fill(b []byte, v byte) {
	for n := range whole(b) {
		whole(b)[n] = v
	}
}

// TestHandedIn (P8.6, R3): what was handed in stays as it was, spare room too, through New, each step, State and Run.
func TestHandedIn(t *testing.T) {
	p, in := loose(t)
	q, was := image(p, in)
	w := paired(t, p, in)
	wantImage(t, p, q, in, was)
	for !w.o.done {
		if e := w.step(); e != api.OK {
			t.Fatalf("%v at %d", e, w.o.at)
		}
		wantImage(t, p, q, in, was)
	}
	m, _ := mach.New(p, in)
	m.Run(1000)
	m.State()
	wantImage(t, p, q, in, was)
}

// TestNotKept (P8.6, R3): what was handed in may be written into behind New, at any step.
func TestNotKept(t *testing.T) {
	for at := range 30 {
		p, in := loose(t)
		w := paired(t, p, in)
		for n := 0; !w.o.done; n++ {
			if n == at {
				spoil(p, in)
			}
			if e := w.step(); e != api.OK {
				t.Fatalf("%v at %d", e, w.o.at)
			}
		}
		if o, e := w.m.Run(0); e != api.OK || !alike(o, w.o.output()) {
			t.Errorf("Run = %v, %v; want %v", o, e, w.o.output())
		}
	}
}

// lists are all lists of bytes of an answer.
func lists(ctx []byte, tables [][]byte) [][]byte { return append([][]byte{ctx}, tables...) }

// TestTold (P8.6, R3): what was told is its owner's: written into, spare room too, it turns nothing in the machine, nor in what is told otherwise; no two lists of an answer share any.
func TestTold(t *testing.T) {
	p := busy(t)
	w := paired(t, p, filled(p))
	for n := 0; ; n++ {
		a, b := w.m.State(), w.m.State()
		spoiled(t, a.Ctx, a.Tables, a.Sent)
		if !same(b, w.o.state()) {
			t.Fatal("one state was touched by what was written into another one")
		}
		w.want("behind what was written into a state")
		if w.o.done {
			break
		}
		if e := w.step(); e != api.OK {
			t.Fatalf("%v at %d", e, w.o.at)
		}
	}
	for range 3 {
		a, _ := w.m.Run(5)
		b, _ := w.m.Run(5)
		s := w.m.State()
		spoiled(t, a.Ctx, a.Tables, a.Sent)
		if !alike(b, w.o.output()) || !same(s, w.o.state()) {
			t.Fatal("an answer was touched by what was written into another one")
		}
		w.want("behind what was written into an output")
	}
}

// spoiled writes into each list of an answer, and looks at the others.
func spoiled(t *testing.T, ctx []byte, tables [][]byte, sent []int) {
	t.Helper()
	l := lists(ctx, tables)
	for n, b := range l {
		var others [][]byte
		for m, c := range l {
			if m != n {
				others = append(others, slices.Clone(whole(c)))
			}
		}
		fill(b, byte(0xa0+n))
		for m, c := range l {
			if m == n {
				continue
			}
			if !slices.Equal(whole(c), others[0]) {
				t.Fatalf("the lists %d and %d of an answer share memory", n, m)
			}
			others = others[1:]
		}
	}
	for n := range whole(tables) {
		whole(tables)[n] = nil
	}
	for n := range whole(sent) {
		whole(sent)[n] = -99
	}
}

// TestTwo (P8.6, R4): two machines of one program and input, their steps mixed in any order, know nothing of one another.
func TestTwo(t *testing.T) {
	d := rolling(2)
	for range 30 {
		p := busy(t)
		in := filled(p)
		a, b := paired(t, p, in), paired(t, p, in)
		for !a.o.done || !b.o.done {
			w, other := a, b
			if d.Intn(2) == 0 {
				w, other = b, a
			}
			if !w.o.done {
				w.step()
			}
			other.want("behind a step of the other one")
		}
	}
}

// TestShared (P8.6, R3): lists that share memory with one another are as good as any.
func TestShared(t *testing.T) {
	p := busy(t)
	one := rising(7, 100)
	in := api.Input{Ctx: one[:21], Tables: [][]byte{one[3:57], one[50:60]}}
	p.Data = one[2:14]
	was := slices.Clone(one)
	w := paired(t, p, in)
	for !w.o.done {
		if e := w.step(); e != api.OK {
			t.Fatalf("%v at %d", e, w.o.at)
		}
		if !slices.Equal(one, was) {
			t.Fatal("what was handed in was changed")
		}
	}
}

// TestNothing (R3): nil and an empty list are one.
func TestNothing(t *testing.T) {
	l := parsed(t, "r0 = 1", "exit")
	for _, p := range []api.Program{{Code: l}, {Code: l, Data: []byte{}, Tables: []api.Table{}}} {
		for _, in := range []api.Input{{}, {Ctx: []byte{}, Tables: [][]byte{}}} {
			w := paired(t, p, in)
			w.wantStop(1, api.TrapFuel)
			w.wantRun(9, 1)
		}
	}
}

// TestRefused (R2): where New is refused there is no machine; where Run is, the output is the zero one.
func TestRefused(t *testing.T) {
	if m, e := mach.New(api.Program{}, api.Input{}); m != nil || e != api.ErrArg {
		t.Errorf("New = %v, %v", m, e)
	}
	if m, e := mach.New(api.Program{Lo: 1, Hi: 1, Code: []api.Ins{exit}}, api.Input{}); m != nil || e != api.ErrInput {
		t.Errorf("New = %v, %v", m, e)
	}
	p := busy(t)
	m, _ := mach.New(p, filled(p))
	o, e := m.Run(len(p.Code) - 1)
	if e != api.TrapFuel || o.R0 != 0 || o.Ctx != nil && len(o.Ctx) != 0 || len(o.Tables) != 0 || len(o.Sent) != 0 {
		t.Errorf("Run = %v, %v", o, e)
	}
}

// TestSideBySide (R4): machines side by side, of one program and input, leave the same.
func TestSideBySide(t *testing.T) {
	p, in := loose(t)
	o, e := begin(p, in)
	for e == api.OK && !o.done {
		o, e = o.step()
	}
	want := o.output()
	wrong := make([]bool, 8)
	var all sync.WaitGroup
	for n := range wrong {
		all.Go(func() {
			for range 50 {
				m, e := mach.New(p, in)
				if e != api.OK {
					wrong[n] = true
					continue
				}
				for m.State().At < n {
					m.Step()
				}
				out, e := m.Run(1000)
				wrong[n] = wrong[n] || e != api.OK || !alike(out, want) || !same(m.State(), o.state())
			}
		})
	}
	all.Wait()
	if slices.Contains(wrong, true) {
		t.Fatal("machines side by side leave something else")
	}
}

// anyIns is anything: fields of all sizes, most of them near what an instruction may have.
func (d dice) anyIns() api.Ins {
	n := func(near int) int {
		if d.Intn(12) == 0 {
			return d.number()
		}
		return d.Intn(near+2) - 1
	}
	i := api.Ins{Op: n(40), Narrow: d.Intn(2) == 0, Reg: d.Intn(2) == 0, Size: among(d, 0, 0, 1, 2, 4, 8, 16, 32, 64, n(64)), Dst: n(10), Src: n(10), Off: n(20) - 8, Imm: n(300)}
	if _, e := code.Check([]api.Ins{i}); e != api.OK && d.Intn(3) > 0 {
		for _, f := range []func(){func() { i.Narrow = false }, func() { i.Reg = false }, func() { i.Off = 0 }, func() { i.Imm = 0 }, func() { i.Src = 0 }, func() { i.Dst = 0 }} {
			if d.Intn(2) == 0 {
				f()
			}
		}
	}
	return i
}

// TestAnything (R1): each call ends, and does not panic, at whatever it is handed.
func TestAnything(t *testing.T) {
	d := rolling(3)
	taken := 0
	for range 20000 {
		n := func(near int) int {
			if d.Intn(30) == 0 {
				return d.number()
			}
			return d.Intn(near)
		}
		p := api.Program{Lo: n(4), Hi: n(60), Data: make([]byte, d.Intn(20))}
		for range d.Intn(4) {
			p.Tables = append(p.Tables, api.Table{Rows: n(4), Wide: n(9)})
		}
		for len(p.Code) < 1+d.Intn(5) {
			if i := d.anyIns(); d.Intn(100) == 0 || made(api.Program{Data: p.Data, Code: []api.Ins{i}}) {
				p.Code = append(p.Code, i)
			}
		}
		in := api.Input{Ctx: make([]byte, d.Intn(50))}
		for _, table := range p.Tables {
			size := d.Intn(9)
			if is := table.Rows * table.Wide; is >= 0 && is < 5000 && d.Intn(9) > 0 {
				size = is
			}
			in.Tables = append(in.Tables, make([]byte, size))
		}
		m, e := mach.New(p, in)
		if _, want := begin(p, in); e != want || (m == nil) != (e != api.OK) {
			t.Fatalf("New = %v; want %v; of%s", e, want, told(p.Code))
		}
		if e != api.OK {
			continue
		}
		taken++
		w := paired(t, p, in)
		for n := 0; n < 20 && w.step() == api.OK; n++ {
		}
		m.Run(d.Intn(300))
		m.Run(min(d.number(), 300)) // it may go round for ever
		if m.State().Done {
			m.Run(d.number())
		}
		m.Step()
		m.State()
	}
	if taken < 3000 {
		t.Errorf("New took %d programs alone", taken)
	}
}
