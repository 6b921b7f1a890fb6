package mach_test

import (
	"slices"
	"testing"

	"warrant/api"
)

// conditions are the operations of conditional jumps.
func conditions() []int {
	var l []int
	for op := api.OpJeq; op <= api.OpJset; op++ {
		l = append(l, op)
	}
	return l
}

// jumped does a conditional jump behind the instructions that are given; whether it was taken, and its trap.
func jumped(t *testing.T, ahead []api.Ins, i api.Ins) (bool, api.Errno) {
	t.Helper()
	i.Off = 1
	p := roomy(append(slices.Clone(ahead), i, exit, exit))
	w := paired(t, p, filled(p))
	for w.o.at != len(ahead) {
		if e := w.step(); e != api.OK {
			t.Fatalf("%v at %d of%s", e, w.o.at, told(p.Code))
		}
	}
	e := w.step()
	return w.m.State().At == len(ahead)+2, e
}

// TestConditions: every condition of seven pairs of numbers, in 64 and 32 bits, with a register and with an Imm.
func TestConditions(t *testing.T) {
	pairs := [7][2]int{{1, 1}, {1, 2}, {2, 1}, {-1, 1}, {1, -1}, {6, 9}, {1 << 32, 0}}
	for _, c := range []struct {
		op           int
		wide, narrow string
	}{
		{api.OpJeq, "y......", "y.....y"},
		{api.OpJne, ".yyyyyy", ".yyyyy."},
		{api.OpJgt, "..yy..y", "..yy..."},
		{api.OpJge, "y.yy..y", "y.yy..y"},
		{api.OpJlt, ".y..yy.", ".y..yy."},
		{api.OpJle, "yy..yy.", "yy..yyy"},
		{api.OpJsgt, "..y.y.y", "..y.y.."},
		{api.OpJsge, "y.y.y.y", "y.y.y.y"},
		{api.OpJslt, ".y.y.y.", ".y.y.y."},
		{api.OpJsle, "yy.y.y.", "yy.y.yy"},
		{api.OpJset, "y..yy..", "y..yy.."},
	} {
		for n, pair := range pairs {
			for _, narrow := range []bool{false, true} {
				want := c.wide[n] == 'y'
				if narrow {
					want = c.narrow[n] == 'y'
				}
				for _, i := range []api.Ins{{Dst: 6, Reg: true, Src: 7}, {Dst: 6, Imm: pair[1]}} {
					i.Op, i.Narrow = c.op, narrow
					is, e := jumped(t, holding(t, held{6, num(pair[0])}, held{7, num(pair[1])}), i)
					if is != want || e != api.OK {
						t.Errorf("%+v of %v: %v, %v; want %v", i, pair, is, e, want)
					}
				}
			}
		}
	}
}

// TestConditionEdges: every condition of every two edges, against the twin.
func TestConditionEdges(t *testing.T) {
	for _, op := range conditions() {
		for _, a := range edges() {
			for _, b := range edges() {
				for _, narrow := range []bool{false, true} {
					ahead := holding(t, held{6, num(a)}, held{7, num(b)})
					jumped(t, ahead, api.Ins{Op: op, Narrow: narrow, Dst: 6, Reg: true, Src: 7})
					if -1<<31 <= b && b < 1<<31 {
						jumped(t, ahead, api.Ins{Op: op, Narrow: narrow, Dst: 6, Imm: b})
					}
				}
			}
		}
	}
}

// TestJumpKinds: values of each kind against one another: numbers against numbers, pointers against pointers of the same kind, all else TrapKind.
func TestJumpKinds(t *testing.T) {
	l := []api.Value{{}, num(0), stack(40), ctx(7), data(2), row(0, 1, 0), row(0, 1, 4), row(1, 0, 0)}
	for _, op := range conditions() {
		for _, narrow := range []bool{false, true} {
			for _, a := range l {
				for _, b := range l {
					want := api.TrapKind
					fixed := a.Kind == api.KindStack || a.Kind == api.KindCtx || a.Kind == api.KindData
					if a.Kind == b.Kind && (a.Kind == api.KindNum || fixed && !narrow && op != api.OpJset) {
						want = api.OK
					}
					if _, e := jumped(t, holding(t, held{6, a}, held{7, b}), api.Ins{Op: op, Narrow: narrow, Dst: 6, Reg: true, Src: 7}); e != want {
						t.Errorf("the operation %d (narrow %v) of %v and %v: %v; want %v", op, narrow, a, b, e, want)
					}
				}
				for _, imm := range []int{0, 1, -1} {
					want := api.TrapKind
					if a.Kind == api.KindNum || a.Kind == api.KindRow && imm == 0 && !narrow && (op == api.OpJeq || op == api.OpJne) {
						want = api.OK
					}
					is, e := jumped(t, holding(t, held{6, a}), api.Ins{Op: op, Narrow: narrow, Dst: 6, Imm: imm})
					if e != want || a.Kind == api.KindRow && is != (e == api.OK && op == api.OpJne) {
						t.Errorf("the operation %d (narrow %v) of %v and %d: %v, %v; want %v", op, narrow, a, imm, is, e, want)
					}
				}
			}
		}
	}
}

// TestOffsetOrder: pointers stand as their offsets, with their signs in all operations.
func TestOffsetOrder(t *testing.T) {
	offsets := []int{-1 << 20, -3, -1, 0, 1, 256, 1 << 20}
	for _, kind := range []int{api.KindStack, api.KindCtx, api.KindData} {
		for _, x := range offsets {
			for _, y := range offsets {
				for op, want := range map[int]bool{
					api.OpJeq: x == y, api.OpJne: x != y,
					api.OpJgt: x > y, api.OpJge: x >= y, api.OpJlt: x < y, api.OpJle: x <= y,
					api.OpJsgt: x > y, api.OpJsge: x >= y, api.OpJslt: x < y, api.OpJsle: x <= y,
				} {
					a, b := api.Value{Kind: kind, X: x}, api.Value{Kind: kind, X: y}
					if is, e := jumped(t, holding(t, held{6, a}, held{7, b}), api.Ins{Op: op, Dst: 6, Reg: true, Src: 7}); is != want || e != api.OK {
						t.Errorf("the operation %d of %v and %v: %v, %v; want %v", op, a, b, is, e, want)
					}
				}
			}
		}
	}
	for _, op := range conditions() {
		want := op == api.OpJeq || op == api.OpJge || op == api.OpJle || op == api.OpJsge || op == api.OpJsle
		if is, e := jumped(t, nil, api.Ins{Op: op, Dst: 10, Reg: true, Src: 10}); op != api.OpJset && (is != want || e != api.OK) {
			t.Errorf("the operation %d of r10 and r10: %v, %v; want %v", op, is, e, want)
		}
	}
}

// TestTargets: where jumps lead, by units: instructions, the unit behind the last one, the second units of OpWide and OpData, and beyond both ends.
func TestTargets(t *testing.T) {
	for distance, want := range map[int]int{
		-6: -1, -5: -1, -4: 0, -3: 1, -2: -1, -1: 2, 0: 3, 1: -1, 2: 4, 3: -1, 4: -1,
		-32768: -1, 32767: -1, -1 << 31: -1, 1<<31 - 1: -1, 1<<31 - 5: -1, 65536 - 4: -1, -65536: -1,
	} {
		for _, i := range []api.Ins{
			{Op: api.OpJa, Off: distance},
			{Op: api.OpJa, Narrow: true, Imm: distance},
			{Op: api.OpJeq, Dst: 0, Imm: 1, Off: distance},
			{Op: api.OpJne, Dst: 0, Imm: 1, Off: distance},
			{Op: api.OpJsle, Narrow: true, Dst: 0, Reg: true, Src: 0, Off: distance},
		} {
			if i.Off != distance && !i.Narrow || i.Off < -32768 || i.Off > 32767 {
				continue
			}
			to := want
			if i.Op == api.OpJne {
				to = 3 // not taken, wherever it would lead
			}
			p := roomy([]api.Ins{{Op: api.OpMov, Imm: 1}, {Op: api.OpWide, Dst: 1}, i, {Op: api.OpData, Dst: 2}, exit})
			if to < 0 {
				wantTrapIn(t, api.TrapJump, p, 2)
				continue
			}
			w := paired(t, p, filled(p))
			for range 3 {
				if e := w.step(); e != api.OK {
					t.Fatal(e)
				}
			}
			if s := w.m.State(); s.At != to {
				t.Errorf("%+v led to %d; want %d", i, s.At, to)
			}
		}
	}
}

// TestFirst: jumps to the instruction 0, from a program's first and last instruction.
func TestFirst(t *testing.T) {
	w := small(t, "goto -1")
	w.wantStop(1000, api.TrapFuel)
	if s := w.m.State(); s.At != 0 || s.Steps != 1000 {
		t.Errorf("the state is%s", shown(s))
	}
	w = small(t, "r2 -= 1", "if r2 != 0 goto -2")
	w.wantStop(99, api.TrapJump) // not taken at last, and nothing stands behind it
	if s := w.m.State(); s.At != 1 || s.Steps != 5 || s.Regs[2] != num(0) {
		t.Errorf("the state is%s", shown(s))
	}
	w = small(t, "r0 = 1", "goto far +8190")
	w.wantStop(99, api.TrapJump)
	long := append([]api.Ins{{Op: api.OpMov, Imm: 9}, {Op: api.OpJa, Narrow: true, Imm: 2 * 4093}}, slices.Repeat([]api.Ins{{Op: api.OpWide, Dst: 1}}, 4093)...)
	w = paired(t, api.Program{Hi: 9, Code: append(long, exit)}, api.Input{})
	w.wantRun(3, 9)
}

// TestTrapJumpLast: an instruction of each sort as the last one does nothing: TrapJump, and nothing has changed.
func TestTrapJumpLast(t *testing.T) {
	for _, l := range [][]string{
		{"r6 = 5"}, {"r6 = r10"}, {"r2 += 1"}, {"r1 += 1"}, {"r1 -= r2"}, {"r1 -= r1"}, {"w2 *= w2"}, {"r2 = -r2"}, {"r6 = s8 r2"}, {"r2 = be16 r2"}, {"r6 = wide 5"}, {"r6 = data 5"},
		{"r6 = u8 [r1]"}, {"r6 = s16 [r1 + 1]"}, {"u64 [r10 - 8] = r1", "r6 = u64 [r10 - 8]"},
		{"u8 [r1] = 1"}, {"u64 [r10 - 8] = 1"}, {"u64 [r10 - 8] = r1"},
		{"lock u64 [r1] += r2"}, {"r2 = lock u32 [r1] = r2"}, {"r0 = 1", "lock u64 [r1] = r2 if r0"},
		{"goto +0"}, {"goto far +0"}, {"goto +1"}, {"goto -3"}, {"if r2 == 21 goto +0"}, {"if r2 == 21 goto -3"}, {"if r2 == 0 goto -1"}, {"if r1 == r1 goto +5"},
		{"r1 = 4", "call 6"}, {"r1 = 0", "r2 = 1", "call 7"}, {"r1 = 1", "r2 = 9", "call 8"},
		{"r3 = 0", "call 1"}, {"r6 = r2", "r2 = 1", "r3 = r6", "call 3"}, {"r2 = r1", "r1 += 3", "r3 = 5", "call 2"}, {"r2 = r1", "r3 = 4", "call 4"}, {"r3 = 4", "call 5"},
	} {
		p := roomy(parsed(t, l...))
		wantTrapIn(t, api.TrapJump, p, len(p.Code)-1)
	}
}

// TestTrapJumpBehind: other traps of jumps come ahead of TrapJump.
func TestTrapJumpBehind(t *testing.T) {
	wantTrap(t, api.TrapKind, "if r6 == 0 goto +100")
	wantTrap(t, api.TrapKind, "if r2 == r6 goto +100")
	wantTrap(t, api.TrapKind, "if r1 != 0 goto +100")
	wantTrap(t, api.TrapKind, "if r1 == r10 goto -100")
	wantTrap(t, api.TrapKind, "if w1 == w1 goto -100")
	wantTrap(t, api.TrapKind, "if r1 & r1 goto +100")
	wantTrap(t, api.TrapJump, "if r1 == r1 goto +100")
	wantTrap(t, api.TrapJump, "goto +100")
	wantTrap(t, api.TrapLeak, "exit")
	wantTrap(t, api.TrapLeak, "r0 = r10", "exit")
}

// TestExit: r0 is a number; exit may be the last instruction, and what other registers hold is all one.
func TestExit(t *testing.T) {
	w := small(t, "r0 = -5", "exit")
	w.wantRun(2, -5, 3, 250, 7)
	small(t, "exit").wantSteps(0, api.TrapLeak)
	small(t, "r0 = r2", "exit", "exit").wantSteps(2, api.ErrDone)
	for _, v := range values() {
		w := paired(t, roomy(append(holding(t, held{0, v}), exit)), filled(roomy(nil))).through()
		want := api.TrapLeak
		if v.Kind == api.KindNum {
			want = api.OK
		}
		if e := w.step(); e != want {
			t.Errorf("exit with r0 %v: %v; want %v", v, e, want)
		}
	}
}
