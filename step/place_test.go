package step_test

import (
	"math"
	"testing"

	"warrant/api"
	"warrant/shape"
	"warrant/span"
)

// TestConstants (P10.5): OpWide at -Most, Most and one past them; OpData up to the data's end; what was there is gone.
func TestConstants(t *testing.T) {
	for _, k := range kinds() {
		s := small(t, k, num())
		wide := func(c int) call { return doing(s, byImm(api.OpWide, 3, c)) }
		two := tags{x: num(), y: num()}
		for _, c := range []int{0, 1, -1, most, -most, most - 1, 1 - most} {
			wantIs(t, wide(c), of(t, two, ranged(y, 1, 3), exactly(x, c)))
		}
		for _, c := range []int{most + 1, math.MaxInt} {
			wantIs(t, wide(c), of(t, two, ranged(y, 1, 3), from(x, most)))
		}
		for _, c := range []int{-most - 1, math.MinInt} {
			wantIs(t, wide(c), of(t, two, ranged(y, 1, 3), upTo(x, -most)))
		}
		for _, c := range []int{0, 1, 16} {
			wantIs(t, doing(s, api.Ins{Op: api.OpData, Dst: 3, Imm: c}), of(t, tags{x: kind(api.KindData), y: num()}, ranged(y, 1, 3), exactly(x, c)))
		}
		wantTraps(t, api.ErrData, s, api.Ins{Op: api.OpData, Dst: 3, Imm: 17}, api.Ins{Op: api.OpData, Dst: 3, Imm: 1<<31 - 1})
	}
	s, e := doing(of(t, nil), api.Ins{Op: api.OpData, Dst: 3}).held(t, api.Program{})
	if e != api.OK || !alike(s, of(t, tags{x: kind(api.KindData)}, exactly(x, 0))) {
		t.Errorf("of no data: %s, %v", told(s), e)
	}
	if s, e := doing(of(t, nil), api.Ins{Op: api.OpData, Dst: 3, Imm: 1}).held(t, api.Program{}); e != api.ErrData {
		t.Errorf("beyond no data: %s, %v", told(s), e)
	}
}

// TestExit (P10.5): r0 of each kind.
func TestExit(t *testing.T) {
	exit := api.Ins{Op: api.OpExit}
	for _, k := range kinds() {
		if s := of(t, tags{r0: k, x: num()}); k == num() {
			wantSame(t, doing(s, exit))
		} else {
			wantTraps(t, api.TrapLeak, s, exit)
		}
	}
	wantSame(t, doing(of(t, tags{r0: num()}, from(r0, 7)), exit))
}

// sizes are those that a place may have.
func sizes() []int { return []int{1, 2, 4, 8} }

// accesses are what reads and writes Size bytes at r3 and an Off: into r4, from r5, which is a number.
func accesses(size, off int) []api.Ins {
	l := []api.Ins{loading(size, 4, 3, off), storing(size, 3, off, 5), storingImm(size, 3, off, -1)}
	if size < 8 {
		l = append(l, sized(api.OpLoads, size, 4, 3, off))
	}
	if size > 2 {
		for _, imm := range atoms() {
			i := sized(api.OpAtom, size, 3, 5, off)
			i.Imm = imm
			l = append(l, i)
		}
	}
	return l
}

func atoms() []int {
	return []int{api.AtomAdd, api.AtomOr, api.AtomAnd, api.AtomXor, api.AtomAdd | api.AtomFetch, api.AtomOr | api.AtomFetch, api.AtomAnd | api.AtomFetch, api.AtomXor | api.AtomFetch, api.AtomXchg, api.AtomCmpx}
}

func writes(i api.Ins) bool { return i.Op == api.OpStore || i.Op == api.OpAtom }

// wantPlace: all accesses at a place of r3 are let through; or trap, but for those to the data that would write.
func wantPlace(t *testing.T, s *shape.Shape, size, off int, trap api.Errno) {
	t.Helper()
	for _, i := range accesses(size, off) {
		switch {
		case s.Tag(x).Kind == api.KindData && writes(i):
			wantTrap(t, api.TrapWrite, doing(s, i))
		case trap != api.OK:
			wantTrap(t, trap, doing(s, i))
		default:
			if now, e := doing(s, i).held(t, program()); e != api.OK || now.Dead() {
				t.Errorf("%s: %s, %v", doing(s, i).told(), told(now), e)
			}
		}
	}
}

// atPlace is a shape with r3 a pointer, r0 and r5 numbers, and all slots written.
func atPlace(t *testing.T, k api.Tag, cs ...[]api.Con) *shape.Shape {
	t.Helper()
	l := tags{r0: num(), x: k, z: num()}
	for v := slot0; v <= slot31; v++ {
		l[v] = num()
	}
	return of(t, l, cs...)
}

// TestBytesOfRegions (P10.6): places in the stack, the data and rows, at each size, at the first and the last byte and one outside; fixed ones and others.
func TestBytesOfRegions(t *testing.T) {
	for _, r := range []struct {
		k    api.Tag
		room int
	}{{kind(api.KindStack), 256}, {kind(api.KindData), 16}, {row(0), 8}, {row(1), 3}} {
		for _, n := range sizes() {
			for _, off := range []int{0, 5, -5, 1<<15 - 1, -1 << 15} {
				last := r.room - n
				at := func(lo, hi int) *shape.Shape { return atPlace(t, r.k, ranged(x, lo-off, hi-off)) }
				if last >= 0 {
					wantPlace(t, at(0, 0), n, off, api.OK)
					wantPlace(t, at(last, last), n, off, api.OK)
					wantPlace(t, at(0, last), n, off, api.OK)
				}
				wantPlace(t, at(-1, -1), n, off, api.TrapBounds)
				wantPlace(t, at(-1, max(0, last)), n, off, api.TrapBounds)
				wantPlace(t, at(last+1, last+1), n, off, api.TrapBounds)
				wantPlace(t, at(0, max(0, last+1)), n, off, api.TrapBounds)
				wantPlace(t, at(most-9+off, most+off), n, off, api.TrapBounds)
			}
			for _, cs := range [][]api.Con{nil, from(x, 0), upTo(x, 0), cons(con(x, 1, -8), con(0, x, 0))} {
				wantPlace(t, atPlace(t, r.k, cs), n, 0, api.TrapBounds)
			}
		}
	}
	none := of(t, nil)
	for _, n := range sizes() { // r10, at all ends of the stack
		for _, i := range []api.Ins{storingImm(n, 10, -n, 5), storingImm(n, 10, -256, 5)} {
			if now, e := doing(none, i).held(t, program()); e != api.OK || now.Dead() {
				t.Errorf("%s: %v", spelt(i), e)
			}
		}
		wantTraps(t, api.TrapBounds, none, storingImm(n, 10, 1-n, 5), storingImm(n, 10, -257, 5), loading(n, 3, 10, 0), loading(n, 3, 10, -257))
	}
}

// TestBytesOfContext (P10.6): it is held against the length, by a bound of the two; the length's own bounds don't count.
func TestBytesOfContext(t *testing.T) {
	k := kind(api.KindCtx)
	for _, n := range sizes() {
		for _, off := range []int{0, 5, -5} {
			below := func(c int) []api.Con { return cons(con(x, 1, c)) }
			wantPlace(t, atPlace(t, k, from(x, -off), below(-n-off)), n, off, api.OK)
			wantPlace(t, atPlace(t, k, from(x, -off), below(1-n-off)), n, off, api.TrapBounds)
			wantPlace(t, atPlace(t, k, from(x, -off-1), below(-n-off)), n, off, api.TrapBounds)
			wantPlace(t, atPlace(t, k, below(-n-off)), n, off, api.TrapBounds)
			wantPlace(t, atPlace(t, k, upTo(x, 9-off), below(-n-off)), n, off, api.TrapBounds)
			wantPlace(t, atPlace(t, k, exactly(x, -off), from(1, n)), n, off, api.OK)
			wantPlace(t, atPlace(t, k, exactly(x, -off), from(1, n-1)), n, off, api.TrapBounds)
			wantPlace(t, atPlace(t, k, exactly(x, 9-off), from(1, n+9)), n, off, api.OK)
			wantPlace(t, atPlace(t, k, ranged(x, -off, 9-off), exactly(1, n+9)), n, off, api.OK)
			wantPlace(t, atPlace(t, k, ranged(x, -off, 9-off), exactly(1, n+8)), n, off, api.TrapBounds)
			wantPlace(t, atPlace(t, k, ranged(x, -off, 9-off), upTo(1, n+9)), n, off, api.TrapBounds)
			wantPlace(t, atPlace(t, k, ranged(x, -off, 9-off)), n, off, api.TrapBounds)
		}
	}
	wantPlace(t, atPlace(t, k, exactly(x, most-3), cons(con(x, 1, -20))), 8, 3, api.OK)
	wantPlace(t, atPlace(t, k, exactly(x, most-3), cons(con(x, 1, -20))), 8, 4, api.TrapBounds) // an end beyond Most is none
}

// TestNoPlace (P10.6): what is no pointer; a row of a table that the program has not.
func TestNoPlace(t *testing.T) {
	for _, n := range sizes() {
		for _, k := range []api.Tag{{}, num(), maybe(0), row(2), row(7)} {
			var cs []api.Con
			if has(k) {
				cs = exactly(x, 0)
			}
			wantPlace(t, atPlace(t, k, cs), n, 0, api.TrapKind)
		}
	}
	if s, e := doing(atPlace(t, row(0), exactly(x, 0)), loading(1, 4, 3, 0)).held(t, api.Program{}); e != api.TrapKind {
		t.Errorf("a row of no table: %s, %v", told(s), e)
	}
}

// TestRooms (P10.6): the data's length and a row's width are the program's, whatever they are.
func TestRooms(t *testing.T) {
	data, wide := atPlace(t, kind(api.KindData), exactly(x, 0)), atPlace(t, row(0), exactly(x, 0))
	for _, c := range []struct {
		s    *shape.Shape
		p    api.Program
		want api.Errno
	}{
		{data, api.Program{}, api.TrapBounds}, {data, api.Program{Data: make([]byte, 3)}, api.TrapBounds}, {data, api.Program{Data: make([]byte, 4)}, api.OK}, {data, api.Program{Data: make([]byte, 9999)}, api.OK},
		{wide, api.Program{Tables: []api.Table{{Wide: 4}}}, api.OK}, {wide, api.Program{Tables: []api.Table{{Wide: 3, Rows: 9}}}, api.TrapBounds}, {wide, api.Program{Tables: []api.Table{{Wide: math.MaxInt}}}, api.OK}, {wide, api.Program{Tables: []api.Table{{Wide: math.MinInt}}}, api.TrapBounds},
	} {
		if s, e := doing(c.s, loading(4, 4, 3, 0)).held(t, c.p); e != c.want {
			t.Errorf("%s: %s, %v; want %v", told(c.s), told(s), e, c.want)
		}
	}
}

// TestOrderOfTraps (P10.6): each trap of a store and of an atomic operation beside those that come behind it.
func TestOrderOfTraps(t *testing.T) {
	outside := func(k, v api.Tag) *shape.Shape { return of(t, tags{x: k, z: v}, exactly(x, 1000)) }
	data, stack := kind(api.KindData), kind(api.KindStack)
	add, cmpx := sized(api.OpAtom, 8, 3, 5, 0), sized(api.OpAtom, 8, 3, 5, 0)
	cmpx.Imm = api.AtomCmpx
	store := storing(8, 3, 0, 5)
	wantTraps(t, api.TrapKind, of(t, tags{z: kind(api.KindCtx)}), store, add)
	wantTraps(t, api.TrapKind, outside(data, api.Tag{}), store, add)
	wantTraps(t, api.TrapWrite, outside(data, kind(api.KindCtx)), store)
	wantTraps(t, api.TrapWrite, outside(data, maybe(0)), store)
	wantTraps(t, api.TrapBounds, outside(row(0), kind(api.KindCtx)), store)
	wantTraps(t, api.TrapBounds, outside(stack, maybe(0)), store)
	wantTraps(t, api.TrapKind, outside(data, kind(api.KindCtx)), add)
	wantTraps(t, api.TrapKind, outside(data, num()), cmpx)
	wantTraps(t, api.TrapWrite, outside(data, num()), add)
	wantTraps(t, api.TrapBounds, outside(stack, num()), add)
	for n, k := range []api.Tag{kind(api.KindCtx), maybe(1), row(0), {}, mask(254)} {
		want := []api.Errno{api.TrapKind, api.TrapKind, api.TrapKind, api.TrapInit, api.TrapInit}[n]
		wantTraps(t, want, of(t, tags{z: num(), slot31: k}), sized(api.OpAtom, 8, 10, 5, -8), sized(api.OpAtom, 4, 10, 5, -8))
	}
	wantTraps(t, api.TrapKind, of(t, tags{z: num(), slot31: kind(api.KindCtx)}), sized(api.OpAtom, 8, 10, 5, -12)) // also behind bytes that were not written
}

// slots are all tags that a slot may have, with some masks.
func slots() []api.Tag {
	l := kinds()
	for _, m := range []int{1, 15, 128, 240, 254, 127, 255} {
		l = append(l, mask(m))
	}
	return l
}

// TestLoadSlot (P10.6): a whole slot of each tag, its bounds go along.
func TestLoadSlot(t *testing.T) {
	for _, off := range []int{-8, -16, -256} {
		v := slot31 + 1 + off/8
		for _, k := range slots() {
			i := loading(8, 4, 10, off)
			switch {
			case has(k):
				wantIs(t, doing(of(t, tags{v: k, y: maybe(0)}, ranged(v, 1, 3)), i), of(t, tags{v: k, y: k}, ranged(v, 1, 3), same(v, y)))
			case k.Kind == api.KindMaybe:
				wantIs(t, doing(of(t, tags{v: k, y: num()}, ranged(y, 1, 3)), i), of(t, tags{v: k, y: k}))
			case k.Mask == 255:
				wantIs(t, doing(of(t, tags{v: k, y: row(1)}, ranged(y, 1, 3)), i), of(t, tags{v: k, y: num()}))
			default:
				wantTraps(t, api.TrapInit, of(t, tags{v: k}), i)
			}
		}
	}
	s := of(t, tags{x: kind(api.KindStack), slot0 + 2: row(1)}, exactly(x, 12), exactly(slot0+2, 5))
	wantIs(t, doing(s, loading(8, 3, 3, 4)), of(t, tags{x: row(1), slot0 + 2: row(1)}, exactly(x, 5), exactly(slot0+2, 5)))
}

// TestLoadBytes (P10.6): parts of slots of each tag, by each size, at each byte of two slots; fixed, at places that are not known, and with a sign.
func TestLoadBytes(t *testing.T) {
	for _, a := range slots() {
		for _, b := range []api.Tag{num(), mask(15), mask(255), {}, row(0), maybe(1)} {
			l := tags{x: kind(api.KindStack), slot0 + 4: a, slot0 + 5: b}
			for at := 32; at < 48; at++ {
				for wide := range 3 {
					for _, n := range sizes() {
						if at+wide+n > 48 || n == 8 && wide == 0 && at%8 == 0 {
							continue
						}
						want := readTrap(a, b, at-32, at+wide+n-32)
						l[y] = maybe(0)
						s := of(t, l, ranged(x, at, at+wide))
						l[y] = num()
						for _, op := range []int{api.OpLoad, api.OpLoads} {
							i := sized(op, n, 4, 3, 0)
							if want != api.OK && (op == api.OpLoad || n < 8) {
								wantTrap(t, want, doing(s, i))
							} else if op == api.OpLoad || n < 8 {
								wantIs(t, doing(s, i), of(t, l, ranged(x, at, at+wide), spanned(y, span.Bytes(n, op == api.OpLoads))))
							}
						}
					}
				}
			}
		}
	}
}

// readTrap is the trap of reading the bytes from one on and below another one of two slots.
func readTrap(a, b api.Tag, from, to int) api.Errno {
	trap := api.OK
	for k := from; k < to; k++ {
		s := a
		if k >= 8 {
			s = b
		}
		switch s.Kind {
		case api.KindNum:
		case api.KindNone:
			if s.Mask>>(k%8)&1 == 0 && trap == api.OK {
				trap = api.TrapInit
			}
		default:
			return api.TrapKind
		}
	}
	return trap
}

// TestLoadElsewhere (P10.6): what is read of other regions is known by its size alone, also by a pointer that is overwritten.
func TestLoadElsewhere(t *testing.T) {
	for _, k := range []api.Tag{kind(api.KindCtx), kind(api.KindData), row(0)} {
		cs := cons(con(1, 0, 8), con(0, 1, -8))
		for _, n := range sizes() {
			s := of(t, tags{x: k, y: k}, cs, exactly(x, 0), exactly(y, 3))
			wantIs(t, doing(s, loading(n, 4, 3, 0)), of(t, tags{x: k, y: num()}, cs, exactly(x, 0), spanned(y, span.Bytes(n, false))))
			wantIs(t, doing(s, loading(n, 3, 3, 0)), of(t, tags{x: num(), y: k}, cs, exactly(y, 3), spanned(x, span.Bytes(n, false))))
			if n < 8 {
				wantIs(t, doing(s, sized(api.OpLoads, n, 4, 3, 0)), of(t, tags{x: k, y: num()}, cs, exactly(x, 0), spanned(y, span.Bytes(n, true))))
			}
		}
	}
}

// TestStoreSlot (P10.6): each kind into a whole slot of each tag; r10 and numbers too.
func TestStoreSlot(t *testing.T) {
	for _, old := range slots() {
		var cs []api.Con
		if has(old) {
			cs = ranged(slot31, 4, 6)
		}
		for _, k := range kinds() {
			i := storing(8, 10, -8, 3)
			switch {
			case has(k):
				wantIs(t, doing(of(t, tags{x: k, slot31: old}, cs, ranged(x, 1, 3)), i), of(t, tags{x: k, slot31: k}, ranged(x, 1, 3), same(x, slot31)))
			case k.Kind == api.KindMaybe:
				wantIs(t, doing(of(t, tags{x: k, slot31: old}, cs), i), of(t, tags{x: k, slot31: k}))
			default:
				wantTraps(t, api.TrapKind, of(t, tags{x: k, slot31: old}, cs), i)
			}
		}
		s := of(t, tags{slot31: old}, cs)
		wantIs(t, doing(s, storing(8, 10, -8, 10)), of(t, tags{slot31: kind(api.KindStack)}, exactly(slot31, 256)))
		for _, c := range []int{0, 7, -1, 1<<31 - 1, -1 << 31} {
			wantIs(t, doing(s, storingImm(8, 10, -8, c)), of(t, tags{slot31: num()}, exactly(slot31, c)))
		}
	}
	self := of(t, tags{x: kind(api.KindStack)}, exactly(x, 16))
	wantIs(t, doing(self, storing(8, 3, 8, 3)), of(t, tags{x: kind(api.KindStack), slot0 + 3: kind(api.KindStack)}, exactly(x, 16), exactly(slot0+3, 16)))
}

// TestLeaks (P10.6): pointers, and what may be one, stand nowhere but in whole slots.
func TestLeaks(t *testing.T) {
	for _, k := range kinds() {
		if k.Kind == api.KindNone || isNum(k) {
			continue
		}
		s := of(t, tags{x: k})
		for _, n := range []int{1, 2, 4} {
			wantTraps(t, api.TrapLeak, s, storing(n, 10, -8, 3))
		}
		wantTraps(t, api.TrapLeak, s, storing(8, 10, -9, 3), storing(8, 10, -12, 3))
		wantTraps(t, api.TrapLeak, of(t, tags{x: k, y: kind(api.KindStack)}, ranged(y, 8, 16)), storing(8, 4, 0, 3))
		for _, r := range []api.Tag{kind(api.KindCtx), row(0)} {
			wantTraps(t, api.TrapLeak, of(t, tags{x: k, y: r}, exactly(y, 0), from(1, 8)), storing(8, 4, 0, 3), storing(1, 4, 0, 3))
		}
	}
	wantTraps(t, api.TrapLeak, of(t, tags{y: row(0)}, exactly(y, 0)), storing(8, 4, 0, 10))
	wantTraps(t, api.TrapLeak, of(t, nil), storing(4, 10, -8, 10))
}

// TestStoreBytes (P10.6): numbers into parts of slots of each tag: what was written stays so, and of a place that is fixed its bytes are too.
func TestStoreBytes(t *testing.T) {
	for _, a := range slots() {
		for _, b := range []api.Tag{num(), mask(15), {}, row(0), maybe(1)} {
			for at := 32; at < 48; at++ {
				for wide := range 3 {
					for _, n := range sizes() {
						if at+wide+n > 48 || n == 8 && wide == 0 && at%8 == 0 {
							continue
						}
						wantBlurred(t, a, b, at, wide, n)
					}
				}
			}
		}
	}
	for _, k := range []api.Tag{kind(api.KindCtx), row(0)} { // elsewhere nothing is known of bytes
		for _, n := range sizes() {
			s := of(t, tags{x: num(), y: k, slot31: num()}, exactly(y, 0), from(1, 8), exactly(slot31, 4))
			wantSame(t, doing(s, storing(n, 4, 0, 3)))
			wantSame(t, doing(s, storingImm(n, 4, 0, 9)))
		}
	}
}

// wantBlurred: behind a store of n bytes, at one of the places from at on, so many and one more, into the slots 4 and 5.
func wantBlurred(t *testing.T, a, b api.Tag, at, more, n int) {
	t.Helper()
	var cs []api.Con
	if has(a) {
		cs = exactly(slot0+4, 1)
	}
	if has(b) {
		cs = append(cs, exactly(slot0+5, 2)...)
	}
	s := of(t, tags{x: kind(api.KindStack), y: num(), slot0 + 4: a, slot0 + 5: b}, cs, ranged(x, at, at+more))
	want := tags{x: kind(api.KindStack), y: num()}
	cs = ranged(x, at, at+more)
	for k, old := range []api.Tag{a, b} {
		v, bits := slot0+4+k, 0
		for byte := range 8 {
			if now := 32 + 8*k + byte; now >= at && now < at+more+n {
				bits |= 1 << byte
			}
		}
		switch {
		case bits == 0:
			if want[v] = old; has(old) {
				cs = append(cs, exactly(v, k+1)...)
			}
		case more == 0:
			want[v] = mask(written(old) | bits)
		default:
			want[v] = mask(written(old))
		}
	}
	wantIs(t, doing(s, storing(n, 3, 0, 4)), of(t, want, cs))
	wantIs(t, doing(s, storingImm(n, 3, 0, -5)), of(t, want, cs))
}

// written is what a slot's tag says of its bytes.
func written(t api.Tag) int {
	if isNum(t) {
		return 255
	}
	return t.Mask
}

// TestAtoms (P10.6): each atomic operation, in the stack, fixed and not, and elsewhere: what it writes.
func TestAtoms(t *testing.T) {
	for _, imm := range atoms() {
		for _, n := range []int{4, 8} {
			i := sized(api.OpAtom, n, 3, 5, 0)
			i.Imm = imm
			wantAtom(t, i, tags{x: row(0)}, nil, exactly(x, 0))
			wantAtom(t, i, tags{x: kind(api.KindCtx)}, nil, exactly(x, 0), from(1, 8))
			for _, k := range []api.Tag{num(), mask(255)} {
				wantAtom(t, i, tags{x: kind(api.KindStack), slot0 + 2: k, slot0 + 3: k}, tags{slot0 + 2: mask(255)}, exactly(x, 16))
				wantAtom(t, i, tags{x: kind(api.KindStack), slot0 + 2: k, slot0 + 3: k}, tags{slot0 + 2: mask(255), slot0 + 3: mask(255)}, exactly(x, 22))
				wantAtom(t, i, tags{x: kind(api.KindStack), slot0 + 2: k, slot0 + 3: k}, tags{slot0 + 2: mask(255), slot0 + 3: mask(255)}, ranged(x, 16, 24))
			}
			if n == 4 {
				wantAtom(t, i, tags{x: kind(api.KindStack), slot0 + 2: mask(254)}, tags{slot0 + 2: mask(254)}, ranged(x, 17, 20))
				wantTraps(t, api.TrapInit, of(t, tags{r0: num(), x: kind(api.KindStack), z: num(), slot0 + 2: mask(254)}, ranged(x, 16, 20)), i)
			}
			for _, k := range kinds() {
				if !isNum(k) {
					wantTraps(t, api.TrapKind, of(t, tags{r0: num(), x: row(0), z: k}, exactly(x, 0)), i)
					s := of(t, tags{r0: k, x: row(0), z: num()}, exactly(x, 0))
					if imm == api.AtomCmpx {
						wantTraps(t, api.TrapKind, s, i)
					} else if _, e := doing(s, i).held(t, program()); e != api.OK {
						t.Errorf("%s: %v", doing(s, i).told(), e)
					}
				}
			}
		}
	}
	i := sized(api.OpAtom, 4, 3, 0, 0) // r0 is held against and put there
	i.Imm = api.AtomCmpx
	wantIs(t, doing(of(t, tags{r0: num(), x: row(0)}, exactly(x, 0), exactly(r0, -5)), i), of(t, tags{r0: num(), x: row(0)}, exactly(x, 0), ranged(r0, 0, half)))
	i = sized(api.OpAtom, 4, 10, 10, -8)
	wantTraps(t, api.TrapKind, of(t, tags{slot31: num()}), i)
}

// wantAtom: behind the operation r3 is as it was, these slots are changed, and what it fetches is.
func wantAtom(t *testing.T, i api.Ins, l, changed tags, cs ...[]api.Con) {
	t.Helper()
	now := tags{r0: num(), z: num()}
	was, left := tags{r0: num(), z: num()}, [][]api.Con{}
	for v, k := range l {
		was[v], now[v] = k, k
		if isNum(k) {
			cs = append(cs, exactly(v, 7))
		}
	}
	s := of(t, was, append(cs, exactly(r0, 3), exactly(z, 4))...)
	for v, k := range changed {
		now[v] = k
	}
	for _, c := range cs {
		if _, is := changed[c[0].I]; !is {
			left = append(left, c)
		}
	}
	fetched := spanned(z, span.Bytes(i.Size, false))
	switch {
	case i.Imm == api.AtomCmpx:
		left = append(left, exactly(z, 4), spanned(r0, span.Bytes(i.Size, false)))
	case i.Imm == api.AtomXchg || i.Imm%2 == 1:
		left = append(left, exactly(r0, 3), fetched)
	default:
		left = append(left, exactly(r0, 3), exactly(z, 4))
	}
	wantIs(t, doing(s, i), of(t, now, left...))
}
