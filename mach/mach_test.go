package mach_test

import (
	"bytes"
	"slices"
	"testing"

	"warrant/api"
	"warrant/help"
	"warrant/mach"
)

// small are a program's text as the chapter's examples have it, on the context 3, 250, 7.
func small(t *testing.T, lines ...string) *pair {
	t.Helper()
	return paired(t, api.Program{Hi: 9, Code: parsed(t, lines...)}, api.Input{Ctx: []byte{3, 250, 7}})
}

// wantRun: Run(fuel) answers r0, with the context as it is told, and OK.
func (w *pair) wantRun(fuel, r0 int, ctx ...byte) {
	w.t.Helper()
	o, e := w.m.Run(fuel)
	if e != api.OK || o.R0 != r0 || !bytes.Equal(o.Ctx, ctx) || len(o.Tables) != 0 || len(o.Sent) != 0 {
		w.t.Errorf("Run(%d) = %v, %v; want r0 %d, the context %v", fuel, o, e, r0, ctx)
	}
}

// wantStop: Run(fuel) answers nothing and the trap.
func (w *pair) wantStop(fuel int, want api.Errno) {
	w.t.Helper()
	if o, e := w.m.Run(fuel); e != want || !empty(o) {
		w.t.Errorf("Run(%d) = %v, %v; want nothing, %v; of%s", fuel, o, e, want, told(w.o.p.Code))
	}
}

// wantSteps: so many steps go well, and then comes a trap.
func (w *pair) wantSteps(n int, want api.Errno) {
	w.t.Helper()
	for k := range n {
		if e := w.step(); e != api.OK {
			w.t.Fatalf("Step %d = %v; of%s", k, e, told(w.o.p.Code))
		}
	}
	if e := w.step(); e != want {
		w.t.Errorf("Step behind %d = %v; want %v; of%s", n, e, want, told(w.o.p.Code))
	}
}

// TestExamples: every row of the chapter's section Examples.
func TestExamples(t *testing.T) {
	w := small(t, "r0 = 5", "exit")
	w.wantStop(1, api.TrapFuel)
	w.wantRun(1, 5, 3, 250, 7)
	w.wantRun(0, 5, 3, 250, 7)
	if e := w.m.Step(); e != api.ErrDone {
		t.Errorf("Step = %v; want %v", e, api.ErrDone)
	}
	if s := w.m.State(); s.Steps != 2 || s.At != 1 || !s.Done {
		t.Errorf("the state is%s", shown(s))
	}

	w = small(t, "r0 = 0", "r3 = 0", "L0:", "if r3 >= r2 goto L1", "r4 = u8 [r1]", "r0 += r4", "r1 += 1", "r3 += 1", "goto L0", "L1:", "exit")
	w.wantRun(99, 260, 3, 250, 7)
	if s := w.m.State(); s.Steps != 22 {
		t.Errorf("%d steps; want 22", s.Steps)
	}

	w = small(t, "r0 = u8 [r1 + 3]", "exit")
	for range 3 {
		w.wantStop(9, api.TrapBounds)
		w.wantSteps(0, api.TrapBounds)
	}
	if s := w.m.State(); s.Steps != 0 || s.At != 0 {
		t.Errorf("the state is%s", shown(s))
	}

	w = small(t, "u64 [r10 - 8] = r1", "r3 = u64 [r10 - 8]", "r0 = u8 [r3 + 1]", "u8 [r10 - 8] = 9", "r4 = u8 [r10 - 8]", "r5 = u16 [r10 - 8]")
	w.wantSteps(5, api.TrapInit)
	s := w.m.State()
	if s.Regs[0] != num(250) || s.Regs[3] != ctx(0) || s.Regs[4] != num(9) || s.Stack[31] != (api.Slot{Bytes: [8]byte{9}, Mask: 1}) {
		t.Errorf("the state is%s", shown(s))
	}

	small(t, "u32 [r10 - 8] = r1", "exit").wantSteps(0, api.TrapLeak)
	small(t, "u64 [r1] = r10", "exit").wantSteps(0, api.TrapBounds)
	small(t, "u8 [r1] = r10", "exit").wantSteps(0, api.TrapLeak)
	small(t, "r3 = r0", "exit").wantSteps(0, api.TrapKind)
	small(t, "r1 += r1", "exit").wantSteps(0, api.TrapKind)
	small(t, "r0 = r1", "exit").wantSteps(1, api.TrapLeak)

	small(t, "r3 = 0", "r0 /= r3").wantSteps(1, api.TrapKind)
	small(t, "r0 = 1", "r3 = 0", "w0 s%= w3").wantSteps(2, api.TrapDiv)

	small(t, "r0 = 1").wantSteps(0, api.TrapJump)
	small(t, "goto +7").wantSteps(0, api.TrapJump)
	small(t, "if r2 == 3 goto +7").wantSteps(0, api.TrapJump)
	small(t, "if r2 == 4 goto +7", "exit").wantSteps(1, api.TrapLeak)

	w = small(t, "r2 = 7", "r1 = 3", "call 8", "exit")
	w.wantRun(9, help.Mix(3, 7), 3, 250, 7)
	s = w.m.State()
	for r := 1; r <= 5; r++ {
		if s.Regs[r] != (api.Value{}) {
			t.Errorf("behind call 8 r%d is %v", r, s.Regs[r])
		}
	}
}

// TestBeginning (P8.1): the state at the beginning of a run, field by field.
func TestBeginning(t *testing.T) {
	p := roomy([]api.Ins{exit})
	in := filled(p)
	m, e := mach.New(p, in)
	if e != api.OK {
		t.Fatal(e)
	}
	want := api.State{Ctx: rising(0xf0, 21), Tables: [][]byte{rising(0x80, 54), rising(0xc0, 10)}}
	want.Regs[1] = api.Value{Kind: api.KindCtx}
	want.Regs[2] = api.Value{Kind: api.KindNum, X: 21}
	want.Regs[10] = api.Value{Kind: api.KindStack, X: 256}
	if s := m.State(); !same(s, want) {
		t.Errorf("the state is%s; want%s", shown(s), shown(want))
	}
}

// wantNew: New answers the error, and a machine just if there is none.
func wantNew(t *testing.T, what string, p api.Program, in api.Input, want api.Errno) {
	t.Helper()
	m, e := mach.New(p, in)
	if e != want || (m == nil) != (want != api.OK) {
		t.Errorf("%s: New = %v, %v; want %v", what, m != nil, e, want)
	}
	if _, e := begin(p, in); e != want {
		t.Errorf("%s: the twin says %v; want %v", what, e, want)
	}
}

// fit is an input that fits a program, if any does.
func fit(p api.Program) api.Input {
	in := api.Input{Ctx: make([]byte, max(0, min(p.Lo, api.MaxCtx)))}
	for _, t := range p.Tables {
		in.Tables = append(in.Tables, make([]byte, max(0, min(t.Rows, 64))*max(0, min(t.Wide, 64))))
	}
	return in
}

// change is one thing that is other in a program, and what New says then.
type change struct {
	what string
	do   func(p *api.Program)
	want api.Errno
}

// wantChanges: of a roomy program, changed by one thing, New says what it should; also if the input fits no more, where the program is refused.
func wantChanges(t *testing.T, l []change) {
	t.Helper()
	for _, c := range l {
		p := roomy(parsed(t, "r0 = 1", "r1 = data 12", "exit"))
		c.do(&p)
		wantNew(t, c.what, p, fit(p), c.want)
		if c.want == api.ErrArg {
			wantNew(t, c.what+", and an input that does not fit", p, api.Input{Ctx: make([]byte, 65536), Tables: make([][]byte, 20)}, api.ErrArg)
			wantNew(t, c.what+", and nothing as an input", p, api.Input{}, api.ErrArg)
		}
	}
}

// TestSizes (P8.1): Lo, Hi, Data and tables at each limit, and one past it.
func TestSizes(t *testing.T) {
	lens := func(lo, hi int) func(p *api.Program) { return func(p *api.Program) { p.Lo, p.Hi = lo, hi } }
	held := func(n int) func(p *api.Program) { return func(p *api.Program) { p.Data = make([]byte, n) } }
	tables := func(l ...api.Table) func(p *api.Program) { return func(p *api.Program) { p.Tables = l } }
	many := func(n int) func(p *api.Program) { return tables(slices.Repeat([]api.Table{{Rows: 1, Wide: 1}}, n)...) }
	wantChanges(t, []change{
		{"nothing other", func(*api.Program) {}, api.OK},
		{"Lo 0, Hi 0", lens(0, 0), api.OK},
		{"Lo -1", lens(-1, 9), api.ErrArg},
		{"Lo the least int", lens(least, 9), api.ErrArg},
		{"Lo and Hi -1", lens(-1, -1), api.ErrArg},
		{"Hi the least int", lens(0, least), api.ErrArg},
		{"Lo is Hi", lens(9, 9), api.OK},
		{"Lo one above Hi", lens(10, 9), api.ErrArg},
		{"Lo the greatest int", lens(most, most), api.ErrArg},
		{"Hi MaxCtx", lens(0, 65535), api.OK},
		{"Lo and Hi MaxCtx", lens(65535, 65535), api.OK},
		{"Hi one above MaxCtx", lens(0, 65536), api.ErrArg},
		{"Lo and Hi one above MaxCtx", lens(65536, 65536), api.ErrArg},
		{"Hi the greatest int", lens(0, most), api.ErrArg},
		{"MaxData bytes", held(4096), api.OK},
		{"one more", held(4097), api.ErrArg},
		{"as much data as an OpData needs", held(12), api.OK},
		{"one byte less", held(11), api.ErrArg},
		{"no tables", tables(), api.OK},
		{"MaxTables tables", many(8), api.OK},
		{"one more", many(9), api.ErrArg},
		{"many more", many(100000), api.ErrArg},
		{"the least table", tables(api.Table{Rows: 1, Wide: 1}), api.OK},
		{"the greatest table", tables(api.Table{Rows: 64, Wide: 64}), api.OK},
	})
	for _, wrong := range []int{least, -1, 0, 65, 1 << 32, 1<<32 + 1, most} {
		for at := range 8 {
			for _, bad := range []api.Table{{Rows: wrong, Wide: 1}, {Rows: 1, Wide: wrong}, {Rows: wrong, Wide: wrong}} {
				l := slices.Repeat([]api.Table{{Rows: 64, Wide: 64}}, 8)
				l[at] = bad
				wantChanges(t, []change{{"a table that is none", tables(l...), api.ErrArg}})
			}
		}
	}
}

// TestCode (P8.1): no instruction, one of each sort that Check refuses, too many, an OpData beyond the data; jumps are not asked.
func TestCode(t *testing.T) {
	code := func(l ...api.Ins) func(p *api.Program) { return func(p *api.Program) { p.Code = l } }
	wantChanges(t, []change{
		{"nil", code(), api.ErrArg},
		{"an empty list", func(p *api.Program) { p.Code = []api.Ins{} }, api.ErrArg},
		{"spare room alone", func(p *api.Program) { p.Code = p.Code[:0] }, api.ErrArg},
		{"one instruction", code(exit), api.OK},
		{"one that jumps away", code(ja(32767)), api.OK},
		{"one that jumps back", code(ja(-32768)), api.OK},
		{"one that does not end", code(api.Ins{Op: api.OpMov}), api.OK},
		{"a helper that is none", code(api.Ins{Op: api.OpCall, Imm: 99}), api.OK},
		{"MaxIns instructions", code(slices.Repeat([]api.Ins{exit}, 4096)...), api.OK},
		{"one more", code(slices.Repeat([]api.Ins{exit}, 4097)...), api.ErrArg},
		{"OpData at the data's end", code(exit, api.Ins{Op: api.OpData, Imm: 12}), api.OK},
		{"OpData one beyond", code(exit, api.Ins{Op: api.OpData, Imm: 13}), api.ErrArg},
		{"OpData one beyond, ahead", code(api.Ins{Op: api.OpData, Imm: 13}, exit), api.ErrArg},
		{"OpData far beyond", code(exit, api.Ins{Op: api.OpData, Imm: 1<<31 - 1}, exit), api.ErrArg},
		{"OpData below 0", code(exit, api.Ins{Op: api.OpData, Imm: -1}), api.ErrArg},
		{"OpWide beyond the data", code(exit, api.Ins{Op: api.OpWide, Imm: most}), api.OK},
		{"OpData 0 without data", func(p *api.Program) { p.Data, p.Code = nil, []api.Ins{{Op: api.OpData}, exit} }, api.OK},
		{"OpData 1 without data", func(p *api.Program) { p.Data, p.Code = nil, []api.Ins{{Op: api.OpData, Imm: 1}, exit} }, api.ErrArg},
	})
	for _, wrong := range []api.Ins{
		{}, {Op: -1}, {Op: 40}, {Op: most}, {Op: api.OpExit, Narrow: true}, {Op: api.OpLoad, Size: 3}, {Op: api.OpMovs, Size: 8}, // ErrOp
		{Op: api.OpMov, Dst: 10}, {Op: api.OpMov, Dst: -1}, {Op: api.OpMov, Reg: true, Src: 11}, {Op: api.OpAtom, Size: 8, Src: 10, Imm: api.AtomFetch}, // ErrReg
		{Op: api.OpExit, Dst: 1}, {Op: api.OpMov, Off: 1}, {Op: api.OpJa, Off: 32768}, // ErrField
		{Op: api.OpExit, Imm: 1}, {Op: api.OpDiv}, {Op: api.OpLsh, Imm: 64}, {Op: api.OpMov, Imm: 1 << 31}, {Op: api.OpAtom, Size: 8, Imm: 2}, // ErrImm
	} {
		wantChanges(t, []change{
			{"a wrong instruction alone", code(wrong), api.ErrArg},
			{"a wrong instruction first", code(wrong, exit), api.ErrArg},
			{"a wrong instruction last", code(exit, exit, wrong), api.ErrArg},
		})
	}
}

// TestInputs (P8.1): inputs that fit, and that do not by one thing each.
func TestInputs(t *testing.T) {
	p := roomy([]api.Ins{exit})
	p.Lo, p.Hi = 3, 7
	with := func(ctx int, tables ...int) api.Input {
		in := api.Input{Ctx: make([]byte, ctx)}
		for _, n := range tables {
			in.Tables = append(in.Tables, make([]byte, n))
		}
		return in
	}
	for n := range 12 {
		want := api.OK
		if n < 3 || n > 7 {
			want = api.ErrInput
		}
		wantNew(t, "the context's length", p, with(n, 54, 10), want)
	}
	wantNew(t, "a long context", p, with(65535, 54, 10), api.ErrInput)
	for _, l := range [][]int{{}, {54}, {54, 10, 10}, {54, 10, 0}, {53, 10}, {55, 10}, {0, 10}, {54, 9}, {54, 11}, {54, 0}, {10, 54}, {54, 54}, {18, 5}, {3, 2}} {
		wantNew(t, "the tables", p, with(5, l...), api.ErrInput)
	}
	wantNew(t, "no tables", p, api.Input{Ctx: make([]byte, 5)}, api.ErrInput)
	wantNew(t, "tables of nil", p, api.Input{Ctx: make([]byte, 5), Tables: make([][]byte, 2)}, api.ErrInput)
	wantNew(t, "very many tables", p, api.Input{Ctx: make([]byte, 5), Tables: make([][]byte, 1<<20)}, api.ErrInput)
	p.Tables = nil
	wantNew(t, "no tables", p, with(5), api.OK)
	wantNew(t, "no tables, an empty list", p, api.Input{Ctx: make([]byte, 5), Tables: [][]byte{}}, api.OK)
	wantNew(t, "a table of nothing", p, with(5, 0), api.ErrInput)
	p.Lo, p.Hi = 0, 0
	wantNew(t, "nothing", p, api.Input{}, api.OK)
	wantNew(t, "an empty context", p, api.Input{Ctx: []byte{}}, api.OK)
	wantNew(t, "a byte", p, with(1), api.ErrInput)
	p.Lo, p.Hi = 65535, 65535
	wantNew(t, "the longest context", p, with(65535), api.OK)
	wantNew(t, "one less", p, with(65534), api.ErrInput)
	wantNew(t, "one more", p, with(65536), api.ErrInput)
	p.Tables = slices.Repeat([]api.Table{{Rows: 64, Wide: 64}}, 8)
	wantNew(t, "the most there can be", p, with(65535, 4096, 4096, 4096, 4096, 4096, 4096, 4096, 4096), api.OK)
	wantNew(t, "one byte less in the last one", p, with(65535, 4096, 4096, 4096, 4096, 4096, 4096, 4096, 4095), api.ErrInput)
}
