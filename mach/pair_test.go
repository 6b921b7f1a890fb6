package mach_test

import (
	"bytes"
	"math"
	"math/rand"
	"slices"
	"strings"
	"testing"

	"warrant/api"
	"warrant/asm"
	"warrant/mach"
)

const least, most = math.MinInt, math.MaxInt

// parsed are the instructions of lines of chapter 3's text.
func parsed(t *testing.T, lines ...string) []api.Ins {
	t.Helper()
	l, line, e := asm.Parse(strings.Join(lines, "\n"))
	if e != api.OK {
		t.Fatalf("the line %d (%v) of %q", line, e, lines)
	}
	return l
}

// exit, and a few others that tests build programs of.
var exit = api.Ins{Op: api.OpExit}

func ja(off int) api.Ins { return api.Ins{Op: api.OpJa, Off: off} }

// roomy is a program of the instructions, with data and two tables, none of them of a size that is a multiple of 8.
func roomy(l []api.Ins) api.Program {
	return api.Program{
		Lo:     0,
		Hi:     100,
		Data:   []byte{0xd0, 0xd1, 0xd2, 0xd3, 0xd4, 0xd5, 0xd6, 0xd7, 0xd8, 0xd9, 0xda, 0x7b},
		Tables: []api.Table{{Rows: 3, Wide: 18}, {Rows: 2, Wide: 5}},
		Code:   l,
	}
}

// rising are so many bytes, each one more than the one ahead.
func rising(from byte, n int) []byte {
	b := make([]byte, n)
	for k := range b {
		b[k] = from + byte(k)
	}
	return b
}

// filled is an input of a program, with a context of 21 bytes, if it takes one.
func filled(p api.Program) api.Input {
	in := api.Input{Ctx: rising(0xf0, min(21, p.Hi))}
	for n, t := range p.Tables {
		in.Tables = append(in.Tables, rising(byte(0x40*n+0x80), t.Rows*t.Wide))
	}
	return in
}

// same tells whether two states are one.
func same(a, b api.State) bool {
	return a.Regs == b.Regs && a.Stack == b.Stack && bytes.Equal(a.Ctx, b.Ctx) && equal(a.Tables, b.Tables) && slices.Equal(a.Sent, b.Sent) && a.At == b.At && a.Steps == b.Steps && a.Done == b.Done
}

func equal(a, b [][]byte) bool { return slices.EqualFunc(a, b, bytes.Equal) }

// alike tells whether two outputs are one.
func alike(a, b api.Output) bool {
	return a.R0 == b.R0 && bytes.Equal(a.Ctx, b.Ctx) && equal(a.Tables, b.Tables) && slices.Equal(a.Sent, b.Sent)
}

// empty tells whether an output is the zero one.
func empty(o api.Output) bool { return alike(o, api.Output{}) }

// pair is a machine and its twin, which go side by side.
type pair struct {
	t *testing.T
	m *mach.Machine
	o twin
}

// paired are a machine and its twin at the beginning of a run.
func paired(t *testing.T, p api.Program, in api.Input) *pair {
	t.Helper()
	m, e := mach.New(p, in)
	if e != api.OK || m == nil {
		t.Fatalf("New = %v, %v of a program that is well made, and an input that fits:%s", m, e, told(p.Code))
	}
	o, e := begin(p, in)
	if e != api.OK {
		t.Fatalf("the twin has %v", e)
	}
	w := &pair{t, m, o}
	w.want("at the beginning")
	return w
}

// want: the machine's state is its twin's.
func (w *pair) want(when string) {
	w.t.Helper()
	if s := w.m.State(); !same(s, w.o.state()) {
		w.t.Fatalf("%s the state is%s\nwant%s\nof the program%s", when, shown(s), shown(w.o.state()), told(w.o.p.Code))
	}
}

// step does a step of both: they answer the same, and leave the same; behind a trap, what was there ahead, and the same trap once more.
func (w *pair) step() api.Errno {
	w.t.Helper()
	ahead := w.o
	behind, want := w.o.step()
	w.o = behind
	if e := w.m.Step(); e != want {
		w.t.Fatalf("Step at %d = %v; want %v;%s\nof the program%s", ahead.at, e, want, shown(ahead.state()), told(ahead.p.Code))
	}
	w.want("behind the step")
	if want != api.OK {
		if e := w.m.Step(); e != want {
			w.t.Fatalf("Step again = %v; want %v", e, want)
		}
		w.want("behind the second step")
		return want
	}
	wantFew(w.t, ahead.p.Code[ahead.at], ahead.state(), w.m.State())
	return want
}

// wantFew (P8.7): a step changes no more than its instruction may.
func wantFew(t *testing.T, i api.Ins, a, b api.State) {
	t.Helper()
	var regs []int
	for r := range a.Regs {
		if a.Regs[r] != b.Regs[r] {
			regs = append(regs, r)
		}
	}
	call := i.Op == api.OpCall
	if len(regs) > 1 && !call || call && len(regs) > 0 && regs[len(regs)-1] > 5 || slices.Contains(regs, 10) {
		t.Fatalf("%+v changed the registers %v", i, regs)
	}
	if len(regs) == 1 && !call {
		may := i.Dst
		switch {
		case i.Op == api.OpAtom && i.Imm == api.AtomCmpx:
			may = 0
		case i.Op == api.OpAtom:
			may = i.Src
		}
		if may != regs[0] || i.Op == api.OpStore || i.Op >= api.OpJa {
			t.Fatalf("%+v changed the register %d", i, regs[0])
		}
	}
	stack, ctx, tables := a.Stack != b.Stack, !bytes.Equal(a.Ctx, b.Ctx), 0
	for n := range a.Tables {
		if !bytes.Equal(a.Tables[n], b.Tables[n]) {
			tables++
		}
	}
	pieces := tables
	for _, is := range []bool{stack, ctx} {
		if is {
			pieces++
		}
	}
	writes := i.Op == api.OpStore || i.Op == api.OpAtom || call && (i.Imm == api.HelpCopy || i.Imm == api.HelpFill)
	if pieces > 1 || pieces == 1 && !writes {
		t.Fatalf("%+v changed the stack (%v), the context (%v), %d tables", i, stack, ctx, tables)
	}
	if len(b.Sent)-len(a.Sent) > 1 || !slices.Equal(a.Sent, b.Sent[:len(a.Sent)]) || len(b.Sent) > len(a.Sent) && (!call || i.Imm != api.HelpEmit) {
		t.Fatalf("%+v sent %v behind %v", i, b.Sent, a.Sent)
	}
	if b.Steps != a.Steps+1 {
		t.Fatalf("%+v: %d steps behind %d", i, b.Steps, a.Steps)
	}
}

// through goes through instructions, the last one left out; that one is to come next.
func (w *pair) through() *pair {
	w.t.Helper()
	last := len(w.o.p.Code) - 1
	for w.o.at != last {
		if e := w.step(); e != api.OK {
			w.t.Fatalf("%v at %d of%s", e, w.o.at, told(w.o.p.Code))
		}
	}
	return w
}

// behind goes through lines, in a roomy program with an exit behind them.
func behind(t *testing.T, lines ...string) api.State {
	t.Helper()
	p := roomy(append(parsed(t, lines...), exit))
	return paired(t, p, filled(p)).through().m.State()
}

// wantReg: behind the lines a register holds the value.
func wantReg(t *testing.T, r int, want api.Value, lines ...string) {
	t.Helper()
	if s := behind(t, lines...); s.Regs[r] != want {
		t.Errorf("behind %q r%d is %v; want %v", lines, r, s.Regs[r], want)
	}
}

// wantTrap: the last one of the lines traps, and none ahead of it, in a roomy program; so too where nothing stands behind it to which the run could go on, since TrapJump comes last.
func wantTrap(t *testing.T, want api.Errno, lines ...string) {
	t.Helper()
	p := roomy(parsed(t, lines...))
	last := len(p.Code) - 1
	wantTrapIn(t, want, p, last)
	p.Code = append(p.Code, exit)
	wantTrapIn(t, want, p, last)
}

// wantTrapIn: the instruction at a place traps, and none that comes ahead of it.
func wantTrapIn(t *testing.T, want api.Errno, p api.Program, at int) {
	t.Helper()
	w := paired(t, p, filled(p))
	for w.o.at != at {
		if e := w.step(); e != api.OK {
			t.Fatalf("%v at %d of%s", e, w.o.at, told(p.Code))
		}
	}
	ahead := w.m.State()
	for range 3 {
		if e := w.m.Step(); e != want {
			t.Errorf("Step at %d = %v; want %v; of%s", at, e, want, told(p.Code))
			return
		}
		if o, e := w.m.Run(7); e != want || !empty(o) {
			t.Errorf("Run at %d = %v, %v; want nothing, %v", at, o, e, want)
		}
		if o, e := w.m.Run(0); e != api.TrapFuel || !empty(o) {
			t.Errorf("Run(0) at %d = %v, %v; want nothing, %v", at, o, e, api.TrapFuel)
		}
	}
	if s := w.m.State(); !same(s, ahead) {
		t.Errorf("the trap %v changed%s to%s", want, shown(ahead), shown(s))
	}
	w.step() // what the twin says of it
}

// held is a register and what it is to hold.
type held struct {
	reg int
	val api.Value
}

// holding are instructions behind which registers from r6 to r8, and behind them r0 to r5, hold values; r9 is a pointer to the context.
func holding(t *testing.T, l ...held) []api.Ins {
	t.Helper()
	code := parsed(t, "r9 = r1")
	mov := func(dst, src int) api.Ins { return api.Ins{Op: api.OpMov, Reg: true, Dst: dst, Src: src} }
	add := func(dst, by int) api.Ins { return api.Ins{Op: api.OpAdd, Dst: dst, Imm: by} }
	for _, h := range l {
		switch v := h.val; v.Kind {
		case api.KindNum:
			code = append(code, api.Ins{Op: api.OpWide, Dst: h.reg, Imm: v.X})
		case api.KindStack:
			code = append(code, mov(h.reg, 10), add(h.reg, v.X-256))
		case api.KindCtx:
			code = append(code, mov(h.reg, 9), add(h.reg, v.X))
		case api.KindData:
			code = append(code, api.Ins{Op: api.OpData, Dst: h.reg}, add(h.reg, v.X))
		case api.KindRow:
			code = append(code, api.Ins{Op: api.OpWide, Dst: 1, Imm: v.Table}, api.Ins{Op: api.OpWide, Dst: 2, Imm: v.Row}, api.Ins{Op: api.OpCall, Imm: api.HelpRow}, mov(h.reg, 0), add(h.reg, v.X))
		}
	}
	return code
}

// tried does one instruction behind those that are given; the states ahead of it and behind, and its trap.
func tried(t *testing.T, ahead []api.Ins, i api.Ins) (a, b api.State, e api.Errno) {
	t.Helper()
	p := roomy(append(slices.Clone(ahead), i, exit))
	w := paired(t, p, filled(p))
	for w.o.at != len(ahead) {
		if e := w.step(); e != api.OK {
			t.Fatalf("%v at %d of%s", e, w.o.at, told(p.Code))
		}
	}
	a = w.m.State()
	e = w.step()
	return a, w.m.State(), e
}

// values are one of each kind, None and both rows' tables among them, and numbers of several sizes.
func values() []api.Value {
	return []api.Value{{}, num(0), num(1), num(-8), num(1 << 31), num(least), num(most), stack(256), stack(0), stack(-3), ctx(0), ctx(1<<20 - 1), data(0), data(12), row(0, 0, 0), row(0, 2, 7), row(1, 1, -1)}
}

// dice draw; the same ones for the same seed.
type dice struct{ *rand.Rand }

func rolling(seed int64) dice { return dice{rand.New(rand.NewSource(seed))} }

// number is any int, of any size.
func (d dice) number() int {
	v := int(d.Uint64()) >> d.Intn(64)
	if d.Intn(2) == 0 {
		return -v
	}
	return v
}

// among is one of a list.
func among[T any](d dice, l ...T) T { return l[d.Intn(len(l))] }
