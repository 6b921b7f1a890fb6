package mach_test

import (
	"testing"

	"warrant/api"
)

// Programs are drawn, on inputs that are drawn, and run step by step beside the twin. Where one traps, another instruction is drawn for the one that trapped, so that the runs go far.

// readied are instructions behind which most registers hold something: r6 the context, r7 a row, r8 the data, r9 the stack, the others numbers.
func (d dice) readied(t *testing.T) []api.Ins {
	t.Helper()
	l := parsed(t, "r6 = r1", "r1 = 0", "r2 = 1", "call 7", "r7 = r0", "r8 = data 4", "r9 = r10", "r9 += -64", "r1 = r9", "r2 = 5", "r3 = 40", "call 3")
	for r := range 6 {
		if d.Intn(8) > 0 {
			l = append(l, api.Ins{Op: api.OpWide, Dst: r, Imm: among(d, 0, d.some(), d.some())})
		}
	}
	return l
}

// some is a number: small ones most of all, then edges, then any.
func (d dice) some() int {
	switch d.Intn(5) {
	case 0:
		return among(d, edges()...)
	case 1:
		return d.number()
	case 2:
		return among(d, 0, 0, 1, -1, 8)
	}
	return d.Intn(40) - 8
}

// imm is a number that fits an Imm of 32 bits.
func (d dice) imm() int { return int(int32(d.some())) }

// pointer is a register that often holds a pointer.
func (d dice) pointer() int { return among(d, 10, 10, 10, 6, 6, 7, 7, 8, 9, 9, d.Intn(11)) }

// off is an offset that often leads into the region of such a register.
func (d dice) off(r int) int {
	switch {
	case d.Intn(30) == 0:
		return int(int16(d.some()))
	case r == 10:
		return among(d, -8, -16, -24, -64, -256, -1-d.Intn(80), -1-d.Intn(258))
	case r == 9:
		return among(d, -8, 0, 8, 32, d.Intn(64), d.Intn(66)-64)
	}
	return among(d, 0, 1, 4, d.Intn(24)-2)
}

// ins is an instruction that is right, of any operation.
func (d dice) ins() api.Ins {
	dst, src := d.Intn(10), d.Intn(11)
	switch d.Intn(12) {
	case 0:
		return d.load(dst)
	case 1, 2:
		return d.store(src)
	case 3:
		return d.atom()
	case 4, 5:
		i := api.Ins{Op: api.OpJeq + d.Intn(11), Narrow: d.Intn(4) == 0, Dst: d.Intn(11), Off: d.Intn(8) - 3}
		return d.operand(i)
	case 6:
		return among(d, api.Ins{Op: api.OpJa, Off: d.Intn(7) - 2}, api.Ins{Op: api.OpJa, Narrow: true, Imm: d.Intn(5) - 1}, api.Ins{Op: api.OpCall, Imm: d.Intn(10)}, api.Ins{Op: api.OpExit})
	case 7:
		return among(d, api.Ins{Op: api.OpWide, Dst: dst, Imm: d.some()}, api.Ins{Op: api.OpData, Dst: dst, Imm: d.Intn(13)}, api.Ins{Op: api.OpCall, Imm: 1 + d.Intn(8)})
	case 8:
		return among(d,
			api.Ins{Op: api.OpLe + d.Intn(3), Dst: dst, Size: among(d, 16, 32, 64)},
			api.Ins{Op: api.OpMovs, Dst: dst, Reg: true, Src: src, Size: among(d, 8, 16, 32)},
			api.Ins{Op: api.OpMovs, Narrow: true, Dst: dst, Reg: true, Src: src, Size: among(d, 8, 16)},
			api.Ins{Op: api.OpNeg, Narrow: d.Intn(2) == 0, Dst: dst})
	case 9:
		return d.operand(api.Ins{Op: among(d, api.OpMov, api.OpAdd, api.OpSub, api.OpSmod), Dst: dst})
	}
	op := api.OpAdd + d.Intn(15)
	if op == api.OpNeg {
		op = api.OpXor
	}
	return d.operand(api.Ins{Op: op, Narrow: d.Intn(3) == 0, Dst: dst})
}

// operand gives an instruction a second operand that it may have.
func (d dice) operand(i api.Ins) api.Ins {
	if d.Intn(2) == 0 {
		i.Reg, i.Src = true, d.Intn(11)
		return i
	}
	i.Imm = d.imm()
	switch i.Op {
	case api.OpLsh, api.OpRsh, api.OpArsh:
		i.Imm = d.Intn(32)
	case api.OpDiv, api.OpMod, api.OpSdiv, api.OpSmod:
		if i.Imm == 0 {
			i.Imm = -3
		}
	}
	return i
}

func (d dice) load(dst int) api.Ins {
	i := api.Ins{Op: api.OpLoad, Size: among(d, 1, 2, 4, 8, 8, 8), Dst: dst, Src: d.pointer()}
	if d.Intn(3) == 0 {
		i.Op, i.Size = api.OpLoads, among(d, 1, 2, 4)
	}
	i.Off = d.off(i.Src)
	return i
}

func (d dice) store(src int) api.Ins {
	i := api.Ins{Op: api.OpStore, Size: among(d, 1, 2, 4, 8, 8, 8), Dst: d.pointer()}
	i.Off = d.off(i.Dst)
	if d.Intn(3) > 0 {
		i.Reg, i.Src = true, src
	} else {
		i.Imm = d.imm()
	}
	return i
}

func (d dice) atom() api.Ins {
	i := api.Ins{Op: api.OpAtom, Size: among(d, 4, 8), Dst: d.pointer(), Src: d.Intn(10), Imm: among(d, 0, 1, 0x40, 0x41, 0x50, 0x51, 0xa0, 0xa1, 0xe1, 0xf1)}
	i.Off = d.off(i.Dst)
	return i
}

// drawn is an input of a roomy program, of any bytes.
func (d dice) drawn(p api.Program) api.Input {
	in := filled(p)
	in.Ctx = make([]byte, d.Intn(30))
	d.Read(in.Ctx)
	for _, b := range in.Tables {
		d.Read(b)
	}
	return in
}

// TestDrawn (P8.2, P8.3, P8.5, P8.7): programs that were drawn, step by step against the twin; and then at once.
func TestDrawn(t *testing.T) {
	d := rolling(4)
	traps := map[api.Errno]int{}
	done := [40]int{} // how often each operation was done
	for range 600 {
		p := roomy(d.readied(t))
		for range 5 + d.Intn(50) {
			p.Code = append(p.Code, d.ins())
		}
		p.Code = append(p.Code, exit)
		in := d.drawn(p)
		for range 25 {
			w := paired(t, p, in)
			e := api.OK
			for w.o.steps < 200 && e == api.OK && !w.o.done {
				done[p.Code[w.o.at].Op]++
				e = w.step()
			}
			w.wantAtOnce(in, e)
			if e == api.OK {
				break
			}
			traps[e]++
			p.Code[w.o.at] = d.ins()
		}
	}
	for e := api.TrapKind; e <= api.TrapJump; e++ {
		if traps[e] < 20 && e != api.TrapFuel {
			t.Errorf("%v came %d times alone", e, traps[e])
		}
	}
	for op := api.OpAdd; op <= api.OpExit; op++ {
		if done[op] < 100 {
			t.Errorf("the operation %d was done %d times alone", op, done[op])
		}
	}
}

// wantAtOnce: a machine of its own, of the same program and input, comes to the same with Run, at once.
func (w *pair) wantAtOnce(in api.Input, e api.Errno) {
	w.t.Helper()
	fuel := w.o.steps
	left := w.o.output()
	switch {
	case e != api.OK:
		fuel++
		left = api.Output{}
	case !w.o.done:
		e = api.TrapFuel
		left = api.Output{}
	}
	other := paired(w.t, w.o.p, in)
	if o, is := other.m.Run(fuel); is != e || !alike(o, left) {
		w.t.Fatalf("Run(%d) = %v, %v; want %v, %v; of%s", fuel, o, is, left, e, told(w.o.p.Code))
	}
	if s := other.m.State(); !same(s, w.o.state()) {
		w.t.Fatalf("behind Run(%d)%s; want%s", fuel, shown(s), shown(w.o.state()))
	}
}
