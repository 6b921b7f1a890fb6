package mach_test

import (
	"slices"
	"testing"

	"warrant/api"
)

// written are instructions behind which r6 is a pointer, r9 one to the context, and each byte of the stack is written, rising from 0, if r6 points there.
func written(t *testing.T, to api.Value) []api.Ins {
	t.Helper()
	l := holding(t, held{6, to})
	for x := range 32 {
		if to.Kind != api.KindStack {
			break
		}
		l = append(l, api.Ins{Op: api.OpWide, Dst: 0, Imm: 0x0706050403020100 + x*0x0808080808080808}, api.Ins{Op: api.OpStore, Size: 8, Dst: 10, Off: 8*x - 256, Reg: true, Src: 0})
	}
	return l
}

// a region, how long it is in a roomy program, and its bytes behind written.
type region struct {
	begin api.Value
	bytes []byte
}

func regions() []region {
	p := roomy(nil)
	in := filled(p)
	return []region{
		{stack(0), rising(0, 256)},
		{ctx(0), in.Ctx},
		{data(0), p.Data},
		{row(0, 0, 0), in.Tables[0][:18]},
		{row(0, 1, 0), in.Tables[0][18:36]},
		{row(0, 2, 0), in.Tables[0][36:]},
		{row(1, 0, 0), in.Tables[1][:5]},
		{row(1, 1, 0), in.Tables[1][5:]},
	}
}

// places are offsets of n bytes about a region's ends, and some between.
func places(size, n int) []int {
	l := []int{-1 << 15, -size, -8, -n, -n + 1, -1, 0, 1, 2, 3, size/2 - 1, size / 2, size - n - 1, size - n, size - n + 1, size - 1, size, size + 1, 2 * size, 1<<15 - 1}
	slices.Sort(l)
	return slices.Compact(l)
}

// number is what bytes come to, the lowest first, with a sign or without.
func number(b []byte, signed bool) int {
	v := 0
	for k, x := range b {
		v |= int(x) << (8 * k)
	}
	if k := 64 - 8*len(b); signed {
		v = v << k >> k
	}
	return v
}

// TestLoads: loads of each size, with a sign and without, at the first and the last byte of each region, one outside, and between; by the pointer's offset and by Off.
func TestLoads(t *testing.T) {
	for _, r := range regions() {
		for _, size := range []int{1, 2, 4, 8} {
			for _, x := range places(len(r.bytes), size) {
				for _, op := range []int{api.OpLoad, api.OpLoads} {
					if op == api.OpLoads && size == 8 {
						continue
					}
					want, trap := api.Value{}, api.TrapBounds
					if x >= 0 && x+size <= len(r.bytes) {
						want, trap = num(number(r.bytes[x:x+size], op == api.OpLoads)), api.OK
					}
					for _, off := range []int{x, 0, -9, 100, x + 3} {
						if off < -1<<15 || off >= 1<<15 {
							continue
						}
						from := r.begin
						from.X += x - off
						_, s, e := tried(t, written(t, from), api.Ins{Op: op, Size: size, Dst: 7, Src: 6, Off: off})
						if e != trap || s.Regs[7] != want {
							t.Errorf("operation %d of %d bytes at %v and %d: %v, %v; want %v, %v", op, size, from, off, s.Regs[7], e, want, trap)
						}
					}
				}
			}
		}
	}
}

// TestFarPlaces: pointers whose offsets are the farthest there are, brought further and back by Off.
func TestFarPlaces(t *testing.T) {
	for _, r := range regions() {
		for _, x := range []int{-1 << 20, 1 << 20, 32768, -32767} {
			from := r.begin
			from.X = x
			for _, off := range []int{-1 << 15, 1<<15 - 1, 0, -x} {
				if off < -1<<15 || off >= 1<<15 {
					continue
				}
				ahead := append(written(t, from), api.Ins{Op: api.OpMov, Dst: 7, Imm: 9})
				for _, size := range []int{1, 4, 8} {
					tried(t, ahead, api.Ins{Op: api.OpLoad, Size: size, Dst: 7, Src: 6, Off: off})
					tried(t, ahead, api.Ins{Op: api.OpStore, Size: size, Dst: 6, Off: off, Reg: true, Src: 7})
					tried(t, ahead, api.Ins{Op: api.OpAtom, Size: max(size, 4), Dst: 6, Off: off, Src: 7, Imm: api.AtomXchg})
				}
			}
		}
	}
	wantReg(t, 7, num(0xf0), "r6 = r1", "r6 += 32768", "r7 = u8 [r6 - 32768]")
	wantReg(t, 7, num(0xf1), "r6 = r1", "r6 += -32766", "r7 = u8 [r6 + 32767]")
}

// TestStores: stores of each size, of a register and of an Imm, about the ends of each region; into the data none.
func TestStores(t *testing.T) {
	for _, r := range regions() {
		for _, size := range []int{1, 2, 4, 8} {
			for _, x := range places(len(r.bytes), size) {
				for _, reg := range []bool{false, true} {
					wantStore(t, r, api.Ins{Op: api.OpStore, Size: size, Dst: 6, Off: x, Reg: reg}, x)
				}
			}
		}
	}
}

// wantStore: a store at x of -2 (by an Imm), or of a number of eight unlike bytes.
func wantStore(t *testing.T, r region, i api.Ins, x int) {
	t.Helper()
	bytes := []byte{0xfe, 0xff, 0xff, 0xff, 0xff, 0xff, 0xff, 0xff}
	i.Imm = -2
	if i.Reg {
		bytes, i.Imm, i.Src = []byte{0x88, 0x77, 0x66, 0x55, 0x44, 0x33, 0x22, 0x11}, 0, 7
	}
	want := api.OK
	switch {
	case r.begin.Kind == api.KindData:
		want = api.TrapWrite
	case x < 0 || x+i.Size > len(r.bytes):
		want = api.TrapBounds
	}
	ahead := append(written(t, r.begin), api.Ins{Op: api.OpWide, Dst: 7, Imm: 0x1122334455667788})
	_, s, e := tried(t, ahead, i)
	if e != want {
		t.Errorf("a store of %d bytes at %v and %d: %v; want %v", i.Size, r.begin, x, e, want)
	}
	left := slices.Clone(r.bytes)
	if e == api.OK {
		copy(left[x:], bytes[:i.Size])
	}
	if is := contents(s, r.begin); !slices.Equal(is, left) {
		t.Errorf("a store of %d bytes at %v and %d left %x; want %x", i.Size, r.begin, x, is, left)
	}
}

// contents are a region's bytes in a state of a roomy program.
func contents(s api.State, v api.Value) []byte {
	switch v.Kind {
	case api.KindStack:
		var b []byte
		for _, slot := range s.Stack {
			b = append(b, slot.Bytes[:]...)
		}
		return b
	case api.KindCtx:
		return s.Ctx
	case api.KindRow:
		wide := roomy(nil).Tables[v.Table].Wide
		return s.Tables[v.Table][v.Row*wide : (v.Row+1)*wide]
	}
	return roomy(nil).Data
}

// TestSlots: which bytes of a slot were written, and that others trap.
func TestSlots(t *testing.T) {
	s := behind(t, "u8 [r10 - 6] = 0x77", "u16 [r10 - 17] = 0x1234")
	if s.Stack[31] != (api.Slot{Bytes: [8]byte{2: 0x77}, Mask: 4}) || s.Stack[29] != (api.Slot{Bytes: [8]byte{7: 0x34}, Mask: 128}) || s.Stack[30] != (api.Slot{Bytes: [8]byte{0: 0x12}, Mask: 1}) {
		t.Errorf("the slots are%s", shown(s))
	}
	wantReg(t, 6, num(0x1234), "u16 [r10 - 17] = 0x1234", "r6 = u16 [r10 - 17]")
	wantReg(t, 6, num(0x12), "u16 [r10 - 17] = 0x1234", "r6 = u8 [r10 - 16]")
	wantReg(t, 6, num(-1), "u64 [r10 - 256] = -1", "r6 = u64 [r10 - 256]")
	wantReg(t, 6, num(-1), "u64 [r10 - 13] = -1", "r6 = u64 [r10 - 13]")
	wantReg(t, 6, num(0x50000000500), "u64 [r10 - 16] = 5", "u64 [r10 - 8] = 5", "u32 [r10 - 11] = 5", "u8 [r10 - 12] = 0", "u8 [r10 - 7] = 0", "u32 [r10 - 16] = 0x500", "u32 [r10 - 12] = 0x500", "r6 = u64 [r10 - 16]")
	wantReg(t, 6, num(3), "u8 [r10 - 1] = 3", "r6 = u8 [r10 - 1]")
	wantReg(t, 6, num(0), "u64 [r10 - 8] = 0", "r6 = u64 [r10 - 8]")
	for _, line := range []string{"r6 = u16 [r10 - 2]", "r6 = s16 [r10 - 2]", "r6 = u32 [r10 - 4]", "r6 = s32 [r10 - 4]", "r6 = u64 [r10 - 8]", "r6 = u8 [r10 - 2]", "r6 = s8 [r10 - 2]", "r6 = u8 [r10 - 256]"} {
		wantTrap(t, api.TrapInit, "u8 [r10 - 1] = 3", line)
	}
	wantTrap(t, api.TrapInit, "u64 [r10 - 16] = 1", "u32 [r10 - 8] = 1", "u16 [r10 - 4] = 1", "u8 [r10 - 1] = 1", "r6 = u64 [r10 - 8]")
	wantReg(t, 6, num(0x01_00_0001_00000001), "u32 [r10 - 8] = 1", "u16 [r10 - 4] = 1", "u8 [r10 - 2] = 0", "u8 [r10 - 1] = 1", "r6 = u64 [r10 - 8]")
	wantTrap(t, api.TrapInit, "u64 [r10 - 16] = 1", "r6 = u32 [r10 - 11]")
	wantTrap(t, api.TrapInit, "u64 [r10 - 8] = 1", "r6 = u32 [r10 - 9]")
}

// TestMasks: stores of each size at each place of the two slots in the midst, and then loads of each size at each place, against the twin.
func TestMasks(t *testing.T) {
	for _, stored := range []int{1, 2, 4, 8} {
		for x := 120; x < 136; x++ {
			ahead := holding(t, held{6, stack(128)}, held{7, num(-0x1122334455667788)})
			ahead = append(ahead, api.Ins{Op: api.OpStore, Size: stored, Dst: 6, Off: x - 128, Reg: true, Src: 7})
			for _, size := range []int{1, 2, 4, 8} {
				for y := 115; y < 140; y++ {
					tried(t, ahead, api.Ins{Op: api.OpLoad, Size: size, Dst: 8, Src: 6, Off: y - 128})
				}
			}
		}
	}
}

// kept are values of which a slot holds each as a pointer.
func kept() []api.Value {
	return []api.Value{stack(256), stack(-5), ctx(0), ctx(1 << 20), data(12), row(0, 2, 3), row(1, 1, 0)}
}

// TestPointersKept: a pointer that is stored in a slot is loaded as that pointer, and as nothing else.
func TestPointersKept(t *testing.T) {
	for _, v := range kept() {
		for _, x := range []int{0, 8, 128, 248} {
			store := append(holding(t, held{7, v}), api.Ins{Op: api.OpStore, Size: 8, Dst: 10, Off: x - 256, Reg: true, Src: 7})
			_, s, e := tried(t, store, api.Ins{Op: api.OpLoad, Size: 8, Dst: 8, Src: 10, Off: x - 256})
			if e != api.OK || s.Regs[8] != v || s.Stack[x/8] != (api.Slot{Ptr: v}) {
				t.Errorf("%v kept at %d is %v, %v; the slot %v", v, x, s.Regs[8], e, s.Stack[x/8])
			}
			for _, size := range []int{1, 2, 4, 8} {
				for y := max(0, x-8); y < min(x+9, 257-size); y++ {
					for _, op := range []int{api.OpLoad, api.OpLoads} {
						if size == 8 && (y == x || op == api.OpLoads) {
							continue
						}
						want := api.TrapKind
						if y+size <= x || y >= x+8 {
							want = api.TrapInit
						}
						if _, _, e := tried(t, store, api.Ins{Op: op, Size: size, Dst: 8, Src: 10, Off: y - 256}); e != want {
							t.Errorf("operation %d of %d bytes at %d, with a pointer at %d: %v; want %v", op, size, y, x, e, want)
						}
					}
				}
			}
		}
	}
}

// TestPointersLeft: bytes that are stored over a slot that was a pointer are all that is written there; what they do not touch stays.
func TestPointersLeft(t *testing.T) {
	for _, v := range kept() {
		for _, size := range []int{1, 2, 4, 8} {
			for x := 112; x < 136; x++ {
				ahead := append(holding(t, held{7, v}),
					api.Ins{Op: api.OpStore, Size: 8, Dst: 10, Off: 120 - 256, Reg: true, Src: 7},
					api.Ins{Op: api.OpStore, Size: 8, Dst: 10, Off: 128 - 256, Reg: true, Src: 7})
				_, s, e := tried(t, ahead, api.Ins{Op: api.OpStore, Size: size, Dst: 10, Off: x - 256, Imm: -1})
				if e != api.OK {
					t.Fatal(e)
				}
				for n := 14; n < 18; n++ {
					want := api.Slot{}
					for k := max(x, 8*n); k < min(x+size, 8*n+8); k++ {
						want.Bytes[k%8] = 0xff
						want.Mask += 1 << (k % 8)
					}
					if want.Mask == 0 && (n == 15 || n == 16) {
						want.Ptr = v
					}
					if s.Stack[n] != want {
						t.Errorf("behind %d bytes at %d over %v the slot %d is %v; want %v", size, x, v, n, s.Stack[n], want)
					}
				}
			}
		}
	}
	s := behind(t, "u64 [r10 - 8] = r1", "u64 [r10 - 8] = r10")
	if s.Stack[31] != (api.Slot{Ptr: stack(256)}) {
		t.Errorf("a pointer over a pointer: %v", s.Stack[31])
	}
	s = behind(t, "u64 [r10 - 8] = -1", "u64 [r10 - 8] = r1")
	if s.Stack[31] != (api.Slot{Ptr: ctx(0)}) {
		t.Errorf("a pointer over bytes: %v", s.Stack[31])
	}
}

// TestTrapLeak: a pointer is stored in a whole slot of the stack, and nowhere else.
func TestTrapLeak(t *testing.T) {
	for _, v := range kept() {
		for _, size := range []int{1, 2, 4, 8} {
			for _, r := range regions() {
				for _, x := range places(len(r.bytes), size) {
					want := api.OK
					switch {
					case r.begin.Kind == api.KindData:
						want = api.TrapWrite
					case x < 0 || x+size > len(r.bytes):
						want = api.TrapBounds
					case r.begin.Kind != api.KindStack || size != 8 || x%8 != 0:
						want = api.TrapLeak
					}
					if _, _, e := tried(t, holding(t, held{6, r.begin}, held{7, v}), api.Ins{Op: api.OpStore, Size: size, Dst: 6, Off: x, Reg: true, Src: 7}); e != want {
						t.Errorf("%v stored in %d bytes at %v and %d: %v; want %v", v, size, r.begin, x, e, want)
					}
				}
			}
		}
	}
}

// TestPlaceOrder: where two traps of a load, a store or an atomic apply, the first one of the document.
func TestPlaceOrder(t *testing.T) {
	const none, number, slot = "", "r6 = 5", "u64 [r10 - 8] = r1"
	for _, line := range []string{"r7 = u8 [r6]", "r7 = s32 [r6 + 30000]", "u8 [r6] = 1", "u64 [r6 - 9] = r6", "u8 [r6] = r8", "u64 [r6] = r10", "lock u32 [r6] += r2", "lock u64 [r6 - 9] += r8", "lock u64 [r6] = r2 if r0"} {
		wantTrap(t, api.TrapKind, none, line)
		wantTrap(t, api.TrapKind, number, line)
	}
	// of loads: bounds ahead of what stands there, pointers ahead of what was not written
	wantTrap(t, api.TrapBounds, slot, "r6 = u64 [r10 - 4]")
	wantTrap(t, api.TrapBounds, "r6 = u64 [r10 - 4]")
	wantTrap(t, api.TrapBounds, "r6 = r10", "r6 += -252", "u64 [r6 - 4] = r1", "r7 = u64 [r6 - 8]")
	wantTrap(t, api.TrapKind, slot, "r6 = u64 [r10 - 12]")
	wantTrap(t, api.TrapKind, "u64 [r10 - 16] = r1", "r6 = u64 [r10 - 12]")
	wantTrap(t, api.TrapKind, "u64 [r10 - 16] = r1", "u32 [r10 - 8] = 1", "r6 = u64 [r10 - 12]")
	// of stores: what is none ahead of all, the data ahead of the bounds, these ahead of the leak
	wantTrap(t, api.TrapKind, "r6 = data 0", "u8 [r6] = r7")
	wantTrap(t, api.TrapKind, "r6 = data 0", "u8 [r6 + 99] = r7")
	wantTrap(t, api.TrapKind, "u8 [r1 + 99] = r7")
	wantTrap(t, api.TrapKind, "u8 [r10 - 8] = r7")
	wantTrap(t, api.TrapKind, "u8 [r1] = r7")
	wantTrap(t, api.TrapWrite, "r6 = data 0", "u8 [r6] = 1")
	wantTrap(t, api.TrapWrite, "r6 = data 0", "u8 [r6 + 99] = 1")
	wantTrap(t, api.TrapWrite, "r6 = data 0", "u8 [r6 - 1] = r2")
	wantTrap(t, api.TrapWrite, "r6 = data 0", "u64 [r6] = r10")
	wantTrap(t, api.TrapBounds, "u64 [r1 + 99] = r10")
	wantTrap(t, api.TrapBounds, "u64 [r10 - 4] = r10")
	wantTrap(t, api.TrapBounds, "u8 [r10 + 0] = r10")
	wantTrap(t, api.TrapBounds, "u8 [r10 - 257] = 1")
	wantTrap(t, api.TrapLeak, "u64 [r10 - 12] = r10")
	wantTrap(t, api.TrapLeak, "u64 [r1] = r10")
	wantTrap(t, api.TrapLeak, "u32 [r10 - 8] = r10")
	// of atomics: kinds, the data, bounds, pointers, what was not written
	wantTrap(t, api.TrapKind, "r6 = data 0", "lock u64 [r6] += r7")
	wantTrap(t, api.TrapKind, "r6 = data 0", "lock u64 [r6 + 99] += r10")
	wantTrap(t, api.TrapKind, "r6 = data 0", "lock u64 [r6 + 99] = r2 if r0")
	wantTrap(t, api.TrapKind, "lock u64 [r10 + 99] = r2 if r0")
	wantTrap(t, api.TrapKind, "r0 = r1", "lock u64 [r1] = r2 if r0")
	wantTrap(t, api.TrapKind, "r0 = 1", "lock u64 [r1] = r1 if r0")
	wantTrap(t, api.TrapKind, "r0 = 1", "lock u64 [r1] = r7 if r0")
	wantTrap(t, api.TrapKind, slot, "lock u64 [r10 - 4] += r1")
	wantTrap(t, api.TrapWrite, "r6 = data 0", "lock u64 [r6 + 99] += r2")
	wantTrap(t, api.TrapWrite, "r6 = data 0", "r0 = 1", "lock u32 [r6] = r2 if r0")
	wantTrap(t, api.TrapWrite, "r6 = data 8", "r7 = 1", "r7 = lock u32 [r6] = r7")
	wantTrap(t, api.TrapBounds, slot, "lock u64 [r10 - 4] += r2")
	wantTrap(t, api.TrapBounds, "lock u64 [r10 - 4] += r2")
	wantTrap(t, api.TrapBounds, "lock u32 [r1 + 18] += r2")
	wantTrap(t, api.TrapBounds, "lock u32 [r1 - 1] += r2")
	wantTrap(t, api.TrapKind, slot, "lock u64 [r10 - 8] += r2")
	wantTrap(t, api.TrapKind, slot, "lock u64 [r10 - 12] += r2")
	wantTrap(t, api.TrapKind, slot, "lock u32 [r10 - 8] += r2")
	wantTrap(t, api.TrapKind, slot, "lock u32 [r10 - 11] += r2")
	wantTrap(t, api.TrapInit, slot, "lock u32 [r10 - 12] += r2")
	wantTrap(t, api.TrapInit, "u8 [r10 - 8] = 1", "lock u32 [r10 - 8] += r2")
	wantTrap(t, api.TrapInit, "u32 [r10 - 8] = 1", "lock u64 [r10 - 8] += r2")
	// r0 is looked at by AtomCmpx alone
	wantReg(t, 0, api.Value{}, "lock u64 [r1] += r2")
	wantReg(t, 0, ctx(0), "r0 = r1", "r2 = lock u64 [r1] = r2")
}

// TestAtoms: what each of the ten does to the place, to Src and to r0; in both sizes, in each region that is written, also over the edge of two slots.
func TestAtoms(t *testing.T) {
	const old, src = 0x8877665544332211, 0x0f1e2d3c4b5a6978
	was := uint64(old)
	for _, c := range []struct {
		imm  int
		is   uint64
		into int // the register that becomes the old number; -1: none
	}{
		{api.AtomAdd, was + src, -1}, {api.AtomAdd | api.AtomFetch, was + src, 7},
		{api.AtomOr, was | src, -1}, {api.AtomOr | api.AtomFetch, was | src, 7},
		{api.AtomAnd, was & src, -1}, {api.AtomAnd | api.AtomFetch, was & src, 7},
		{api.AtomXor, was ^ src, -1}, {api.AtomXor | api.AtomFetch, was ^ src, 7},
		{api.AtomXchg, src, 7}, {api.AtomCmpx, was, 0},
	} {
		for _, at := range []api.Value{stack(0), stack(248), stack(100), stack(125), ctx(0), ctx(13), ctx(7), row(0, 1, 0), row(0, 2, 10)} {
			for _, size := range []int{4, 8} {
				ahead := append(written(t, at), holding(t, held{0, num(1)}, held{7, num(src)}, held{8, num(int(was))})[1:]...)
				ahead = append(ahead, api.Ins{Op: api.OpStore, Size: 8, Dst: 6, Reg: true, Src: 8})
				_, s, e := tried(t, ahead, api.Ins{Op: api.OpAtom, Size: size, Dst: 6, Src: 7, Imm: c.imm})
				begin := at
				begin.X = 0
				left, fetched, whole := int(c.is), int(was), contents(s, begin)[at.X:at.X+8]
				if size == 4 {
					left, fetched = int(was&^(1<<32-1)|c.is&(1<<32-1)), int(was&(1<<32-1))
				}
				if e != api.OK || number(whole, false) != left {
					t.Errorf("the atomic %x of %d bytes at %v left %x, %v; want %x", c.imm, size, at, whole, e, left)
				}
				r0, r7 := 1, src
				switch c.into {
				case 0:
					r0 = fetched
				case 7:
					r7 = fetched
				}
				if s.Regs[0] != num(r0) || s.Regs[7] != num(r7) {
					t.Errorf("the atomic %x of %d bytes at %v: r0 is %v, r7 %v; want %x, %x", c.imm, size, at, s.Regs[0], s.Regs[7], r0, r7)
				}
			}
		}
	}
}

// TestCmpx: of the number of r0's low bytes alone; r0 becomes the old number, whatever came of it.
func TestCmpx(t *testing.T) {
	const at = "u64 [r1] = r6"
	set := []string{"r6 = wide 1234605616436508552", "r7 = wide 72623859790382856", at} // 0x1122334455667788, 0x0102030405060708
	try := func(line string, more ...string) []string { return append(append(slices.Clone(set), more...), line) }
	const u64, u32 = "lock u64 [r1] = r7 if r0", "lock u32 [r1] = r7 if r0"
	wantReg(t, 0, num(0x1122334455667788), try(u64, "r0 = r6")...)
	wantReg(t, 8, num(0x0102030405060708), append(try(u64, "r0 = r6"), "r8 = u64 [r1]")...)
	wantReg(t, 8, num(0x1122334455667788), append(try(u64, "r0 = r6", "r0 += 1"), "r8 = u64 [r1]")...)
	wantReg(t, 0, num(0x1122334455667788), try(u64, "r0 = 0")...)
	wantReg(t, 8, num(0x1122334455667788), append(try(u64, "w0 = w6"), "r8 = u64 [r1]")...)
	wantReg(t, 0, num(0x55667788), try(u32, "w0 = w6")...)
	wantReg(t, 8, num(0x1122334405060708), append(try(u32, "w0 = w6"), "r8 = u64 [r1]")...)
	wantReg(t, 8, num(0x1122334405060708), append(try(u32, "r0 = r6"), "r8 = u64 [r1]")...)
	wantReg(t, 8, num(0x1122334455667788), append(try(u32, "r0 = r6", "r0 += 1"), "r8 = u64 [r1]")...)
	wantReg(t, 0, num(0x55667788), try(u32, "r0 = -1")...)
	wantReg(t, 7, num(0x0102030405060708), try(u64, "r0 = r6")...)
	wantReg(t, 7, num(0x0102030405060708), try(u32, "r0 = 0")...)
	wantReg(t, 0, num(-1), "r0 = -1", "u64 [r1] = -1", "r7 = 5", "lock u64 [r1] = r7 if r0")
	wantReg(t, 0, num(1<<32-1), "r0 = -1", "u64 [r1] = -1", "r7 = 5", "lock u32 [r1] = r7 if r0")
	// Src may be r0
	wantReg(t, 0, num(0x1122334455667788), try("lock u64 [r1] = r0 if r0", "r0 = 3")...)
	wantReg(t, 8, num(0x1122334455667788), append(try("lock u64 [r1] = r0 if r0", "r0 = 3"), "r8 = u64 [r1]")...)
}

// TestAtomPlaces: atomics about the ends of each region, over bytes that were written and not, and over slots that are pointers, against the twin.
func TestAtomPlaces(t *testing.T) {
	imms := []int{api.AtomAdd, api.AtomAdd | api.AtomFetch, api.AtomXchg, api.AtomCmpx}
	for _, r := range regions() {
		for _, size := range []int{4, 8} {
			for _, x := range places(len(r.bytes), size) {
				for _, imm := range imms {
					ahead := append(written(t, r.begin), holding(t, held{0, num(7)}, held{7, num(-5)})[1:]...)
					_, _, e := tried(t, ahead, api.Ins{Op: api.OpAtom, Size: size, Dst: 6, Off: x, Src: 7, Imm: imm})
					want := api.OK
					switch {
					case r.begin.Kind == api.KindData:
						want = api.TrapWrite
					case x < 0 || x+size > len(r.bytes):
						want = api.TrapBounds
					}
					if e != want {
						t.Errorf("the atomic %x of %d bytes at %v and %d: %v; want %v", imm, size, r.begin, x, e, want)
					}
				}
			}
		}
	}
	for x := 224; x < 256; x++ {
		for _, size := range []int{4, 8} {
			for _, imm := range imms {
				ahead := append(holding(t, held{0, num(7)}, held{7, num(-5)}), parsed(t, "u64 [r10 - 32] = 9", "u64 [r10 - 16] = r1", "u32 [r10 - 8] = 5", "u16 [r10 - 22] = 5")...)
				tried(t, ahead, api.Ins{Op: api.OpAtom, Size: size, Dst: 10, Off: x - 256, Src: 7, Imm: imm})
			}
		}
	}
}

// TestAtomKinds: values of each kind as Dst, Src and r0, against the twin.
func TestAtomKinds(t *testing.T) {
	for _, a := range values() {
		for _, b := range values() {
			for _, r0 := range []api.Value{{}, num(3), ctx(0)} {
				for _, imm := range []int{api.AtomOr, api.AtomXor | api.AtomFetch, api.AtomXchg, api.AtomCmpx} {
					tried(t, holding(t, held{6, a}, held{7, b}, held{0, r0}), api.Ins{Op: api.OpAtom, Size: 8, Dst: 6, Src: 7, Imm: imm})
				}
			}
		}
	}
}

// TestPlaceKinds: values of each kind as the place and what is stored, against the twin.
func TestPlaceKinds(t *testing.T) {
	for _, a := range values() {
		for _, b := range values() {
			ahead := holding(t, held{6, a}, held{7, b})
			for _, size := range []int{1, 2, 4, 8} {
				for _, off := range []int{-8, 0, 3} {
					tried(t, ahead, api.Ins{Op: api.OpStore, Size: size, Dst: 6, Off: off, Reg: true, Src: 7})
					tried(t, ahead, api.Ins{Op: api.OpLoad, Size: size, Dst: 7, Src: 6, Off: off})
				}
			}
		}
	}
}

// TestEmptyRegions: nothing is read or written where there is no byte.
func TestEmptyRegions(t *testing.T) {
	for _, line := range []string{"r0 = u8 [r1]", "u8 [r1] = 1", "r6 = data 0\nr0 = u8 [r6]", "u64 [r1] = r10", "r2 = lock u32 [r1] += r2"} {
		p := api.Program{Code: append(parsed(t, line), exit)}
		wantTrapIn(t, api.TrapBounds, p, len(p.Code)-2)
	}
	p := api.Program{Code: append(parsed(t, "r6 = data 0", "u8 [r6] = 1"), exit)}
	wantTrapIn(t, api.TrapWrite, p, 1)
}
