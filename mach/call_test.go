package mach_test

import (
	"slices"
	"testing"

	"warrant/api"
	"warrant/help"
)

// given are instructions behind which r1, r2 and r3 hold values, r4 and r5 none, the bytes 128 to 191 of the stack rise from 0, the slots 24 and 25 are pointers, and the other ones were not written.
func given(t *testing.T, r1, r2, r3 api.Value) []api.Ins {
	t.Helper()
	l := holding(t, held{6, r1}, held{7, r2}, held{8, r3})
	for x := 128; x < 192; x += 8 {
		l = append(l, api.Ins{Op: api.OpWide, Dst: 0, Imm: 0x0706050403020100 + (x-128)/8*0x0808080808080808}, api.Ins{Op: api.OpStore, Size: 8, Dst: 10, Off: x - 256, Reg: true, Src: 0})
	}
	l = append(l, parsed(t, "u64 [r10 - 64] = r9", "u64 [r10 - 56] = r10", "r1 = 0", "r2 = 0", "call 8")...)
	for k, v := range []api.Value{r1, r2, r3} {
		if v.Kind != api.KindNone {
			l = append(l, api.Ins{Op: api.OpMov, Dst: k + 1, Reg: true, Src: k + 6})
		}
	}
	return l
}

// called calls a helper with these values in r1, r2 and r3.
func called(t *testing.T, id int, r1, r2, r3 api.Value) (a, b api.State, e api.Errno) {
	t.Helper()
	return tried(t, given(t, r1, r2, r3), api.Ins{Op: api.OpCall, Imm: id})
}

// wantCalled: a helper answers r0, and takes r1 to r5, with all other registers as they were.
func wantCalled(t *testing.T, id int, r1, r2, r3, r0 api.Value) (a, b api.State) {
	t.Helper()
	a, b, e := called(t, id, r1, r2, r3)
	want := a.Regs
	want[0] = r0
	clear(want[1:6])
	if e != api.OK || b.Regs != want {
		t.Errorf("call %d of %v, %v, %v: %v, %v; want r0 %v", id, r1, r2, r3, b.Regs, e, r0)
	}
	return a, b
}

// wantRefused: TrapCall.
func wantRefused(t *testing.T, id int, r1, r2, r3 api.Value) {
	t.Helper()
	if _, _, e := called(t, id, r1, r2, r3); e != api.TrapCall {
		t.Errorf("call %d of %v, %v, %v: %v; want %v", id, r1, r2, r3, e, api.TrapCall)
	}
}

var none = api.Value{}

// TestHelpers (P7.6): what each of the eight answers and leaves.
func TestHelpers(t *testing.T) {
	wantCalled(t, api.HelpSum, ctx(0), num(3), num(5), num(0xf0f1+0xf200+5-65535))
	wantCalled(t, api.HelpSum, stack(130), num(4), num(-1), num(0x0203+0x0405+65535-65535))
	wantCalled(t, api.HelpSum, data(11), num(1), num(0), num(0x7b00))
	wantCalled(t, api.HelpSum, row(1, 1, 3), num(2), num(0), num(0xc8c9))
	wantCalled(t, api.HelpDiff, ctx(0), ctx(1), num(4), num(-1))
	wantCalled(t, api.HelpDiff, ctx(1), ctx(0), num(4), num(1))
	wantCalled(t, api.HelpDiff, ctx(1), ctx(1), num(4), num(0))
	wantCalled(t, api.HelpDiff, data(0), stack(128), num(12), num(1))
	wantCalled(t, api.HelpFind, ctx(1), num(20), num(0xf5), num(4))
	wantCalled(t, api.HelpFind, ctx(1), num(4), num(0xf5), num(-1))
	wantCalled(t, api.HelpFind, stack(128), num(64), num(256+63), num(63))
	wantCalled(t, api.HelpMix, num(3), num(7), none, num(help.Mix(3, 7)))
	wantCalled(t, api.HelpMix, num(7), num(3), none, num(help.Mix(7, 3)))
	_, s := wantCalled(t, api.HelpEmit, num(-9), none, none, num(0))
	if !slices.Equal(s.Sent, []int{-9}) {
		t.Errorf("%v were sent", s.Sent)
	}
	wantCalled(t, api.HelpRow, num(0), num(2), none, row(0, 2, 0))

	_, s = wantCalled(t, api.HelpCopy, ctx(2), stack(128), num(5), num(0))
	if want := slices.Concat([]byte{0xf0, 0xf1, 0, 1, 2, 3, 4}, rising(0xf7, 14)); !slices.Equal(s.Ctx, want) {
		t.Errorf("the context is %x; want %x", s.Ctx, want)
	}
	_, s = wantCalled(t, api.HelpFill, row(0, 1, 3), num(0x1ab), num(15), num(0))
	if want := slices.Concat(rising(0x80, 21), slices.Repeat([]byte{0xab}, 15), rising(0xa4, 18)); !slices.Equal(s.Tables[0], want) {
		t.Errorf("the table 0 is %x; want %x", s.Tables[0], want)
	}
}

// TestAnyRest: what r4 and r5, and of some helpers r2 and r3, hold is not asked, and is gone behind the call.
func TestAnyRest(t *testing.T) {
	for _, v := range []string{"r1", "r10", "7"} {
		for _, l := range [][]string{
			{"r4 = X", "r5 = X", "r3 = 1", "call 1"}, {"r4 = X", "r5 = X", "r2 = r1", "r3 = 1", "call 4"},
			{"r2 = X", "r3 = X", "r4 = X", "r5 = X", "r1 = 3", "call 6"}, {"r3 = X", "r4 = X", "r5 = X", "r1 = 1", "r2 = 1", "call 8"}, {"r3 = X", "r4 = X", "r5 = X", "r1 = 1", "r2 = 1", "call 7"},
		} {
			var lines []string
			for _, line := range l {
				if n := len(line); line[n-1] == 'X' {
					line = line[:n-1] + v
				}
				lines = append(lines, line)
			}
			s := behind(t, lines...)
			for r := 1; r <= 5; r++ {
				if s.Regs[r] != none {
					t.Errorf("behind %q r%d is %v", lines, r, s.Regs[r])
				}
			}
		}
	}
}

// TestNoHelper (P7.6, 1).
func TestNoHelper(t *testing.T) {
	for _, id := range []int{0, -1, 9, 10, 256 + 1, 65536 + 6, 1<<31 - 1, -1 << 31} {
		wantRefused(t, id, num(0), num(0), num(0))
		wantRefused(t, id, ctx(0), num(1), num(1))
		wantRefused(t, id, none, none, none)
	}
}

// good is a call that is given what it is asked for; in args each of r1 to r3 is N, a number, L, a length, R or W, a piece, or nothing.
type good struct {
	id   int
	r    [3]api.Value
	args string
}

func goodCalls() []good {
	return []good{
		{api.HelpSum, [3]api.Value{stack(130), num(3), num(1)}, "RLN"},
		{api.HelpCopy, [3]api.Value{ctx(1), stack(130), num(3)}, "WRL"},
		{api.HelpFill, [3]api.Value{ctx(1), num(9), num(3)}, "WNL"},
		{api.HelpDiff, [3]api.Value{ctx(1), stack(130), num(3)}, "RRL"},
		{api.HelpFind, [3]api.Value{ctx(1), num(3), num(9)}, "RLN"},
		{api.HelpEmit, [3]api.Value{num(5), none, none}, "N"},
		{api.HelpRow, [3]api.Value{num(1), num(1), none}, "NN"},
		{api.HelpMix, [3]api.Value{num(1), num(1), none}, "NN"},
	}
}

// with calls with another value in one register.
func (g good) with(t *testing.T, k int, v api.Value) (a, b api.State, e api.Errno) {
	t.Helper()
	g.r[k] = v
	return called(t, g.id, g.r[0], g.r[1], g.r[2])
}

// want: with another value in one register the call is refused, or not.
func (g good) want(t *testing.T, k int, v api.Value, want api.Errno) {
	t.Helper()
	if _, _, e := g.with(t, k, v); e != want {
		t.Errorf("call %d of %v, r%d %v: %v; want %v", g.id, g.r, k+1, v, e, want)
	}
}

// TestAsked (P7.6, 2 and 3): each register of each call with something that is not asked for.
func TestAsked(t *testing.T) {
	pointers := []api.Value{stack(130), ctx(0), data(0), row(0, 1, 0)}
	for _, g := range goodCalls() {
		if _, _, e := called(t, g.id, g.r[0], g.r[1], g.r[2]); e != api.OK {
			t.Fatalf("call %d of %v: %v", g.id, g.r, e)
		}
		for k, arg := range g.args {
			g.want(t, k, none, api.TrapCall)
			switch arg {
			case 'N', 'L':
				for _, v := range pointers {
					g.want(t, k, v, api.TrapCall)
				}
			default:
				for _, n := range []int{0, 1, 130, -1, most, least} {
					g.want(t, k, num(n), api.TrapCall)
				}
			}
			if arg == 'N' && g.id != api.HelpRow {
				for _, n := range []int{0, -1, 65536, least, most} {
					g.want(t, k, num(n), api.OK)
				}
			}
		}
		for k := len(g.args); k < 3; k++ {
			for _, v := range append(pointers, num(least), none) {
				g.want(t, k, v, api.OK)
			}
		}
	}
}

// TestLengths (P7.6, 2): lengths below 0, above MaxSpan, and those whose low bits would do.
func TestLengths(t *testing.T) {
	for _, g := range goodCalls() {
		for k, arg := range g.args {
			if arg != 'L' {
				continue
			}
			for _, n := range []int{-1, -3, 65536, 65535, 1<<16 + 3, 1<<32 + 3, least, least + 3, most, 1 << 62, -1 << 32} {
				g.want(t, k, num(n), api.TrapCall)
			}
			for _, n := range []int{0, 1, 7, 20} {
				g.want(t, k, num(n), api.OK)
			}
		}
	}
}

// TestPieces (P7.6, 3 and 4): pieces of each length about the ends of each region, of length 0 too; in the data none that is written.
func TestPieces(t *testing.T) {
	for _, g := range goodCalls() {
		l := slices.Index([]byte(g.args), 'L')
		for k, arg := range g.args {
			if arg != 'R' && arg != 'W' {
				continue
			}
			for _, r := range regions() {
				size := len(r.bytes)
				for _, n := range []int{0, 1, 5, size, size + 1} {
					for _, x := range []int{-1, 0, 1, size - n - 1, size - n, size - n + 1, size, size + 1, -1 << 20, 1 << 20} {
						h := g
						for m, other := range g.args {
							if other == 'R' || other == 'W' {
								h.r[m] = stack(200 - 72) // 64 bytes are written there
							}
						}
						h.r[l], h.r[k] = num(n), r.begin
						h.r[k].X = x
						want := api.OK
						switch {
						case x < 0 || x+n > size:
							want = api.TrapCall
						case arg == 'W' && r.begin.Kind == api.KindData:
							want = api.TrapCall
						case arg == 'R' && r.begin.Kind == api.KindStack && n > 0 && (x < 128 || x+n > 192):
							want = api.TrapCall
						case n > 64 && g.id != api.HelpSum && g.id != api.HelpFind && g.id != api.HelpFill:
							want = api.TrapCall // of the other piece
						}
						if _, _, e := called(t, h.id, h.r[0], h.r[1], h.r[2]); e != want {
							t.Errorf("call %d of %v: %v; want %v", h.id, h.r, e, want)
						}
					}
				}
			}
		}
	}
}

// TestEmptyPieces (P7.6, 3): pieces of length 0 at a region's end, one past it, and one ahead of its beginning; over bytes that were not written, and pointers, they do no harm.
func TestEmptyPieces(t *testing.T) {
	for _, r := range regions() {
		at := func(x int) api.Value {
			v := r.begin
			v.X = x
			return v
		}
		for x, want := range map[int]api.Errno{-1: api.TrapCall, 0: api.OK, len(r.bytes): api.OK, len(r.bytes) + 1: api.TrapCall} {
			for _, c := range []good{{api.HelpSum, [3]api.Value{at(x), num(0), num(7)}, ""}, {api.HelpFind, [3]api.Value{at(x), num(0), num(7)}, ""}, {api.HelpDiff, [3]api.Value{at(x), at(x), num(0)}, ""}} {
				c.want(t, 0, c.r[0], want)
			}
			if r.begin.Kind == api.KindData && want == api.OK {
				want = api.TrapCall
			}
			c := good{api.HelpFill, [3]api.Value{at(x), num(7), num(0)}, ""}
			c.want(t, 0, c.r[0], want)
			c = good{api.HelpCopy, [3]api.Value{at(x), ctx(0), num(0)}, ""}
			c.want(t, 0, c.r[0], want)
		}
	}
	for _, x := range []int{0, 100, 192, 195, 200, 208, 256} {
		wantCalled(t, api.HelpSum, stack(x), num(0), num(7), num(7))
		wantCalled(t, api.HelpFind, stack(x), num(0), num(7), num(-1))
		wantCalled(t, api.HelpDiff, stack(x), stack(x), num(0), num(0))
		for _, id := range []int{api.HelpFill, api.HelpCopy} {
			r2 := stack(x)
			if id == api.HelpFill {
				r2 = num(7)
			}
			a, b := wantCalled(t, id, stack(x), r2, num(0), num(0))
			if a.Stack != b.Stack {
				t.Errorf("call %d of no bytes at %d changed the stack", id, x)
			}
		}
	}
}

// TestUnread (P7.6, 5): one byte that was not written, or that belongs to a pointer, at either end of a piece that is read.
func TestUnread(t *testing.T) {
	for _, c := range []struct {
		x, n int
		want api.Errno
	}{
		{128, 64, api.OK}, {127, 64, api.TrapCall}, {127, 1, api.TrapCall}, {127, 2, api.TrapCall}, {128, 65, api.TrapCall}, {191, 1, api.OK}, {191, 2, api.TrapCall}, {192, 1, api.TrapCall}, {199, 1, api.TrapCall}, {192, 8, api.TrapCall}, {130, 62, api.OK}, {130, 63, api.TrapCall}, {0, 256, api.TrapCall}, {208, 48, api.TrapCall}, {120, 0, api.OK},
	} {
		wants := func(id int, r1, r2, r3 api.Value) {
			t.Helper()
			if _, _, e := called(t, id, r1, r2, r3); e != c.want {
				t.Errorf("call %d of %d bytes at %d: %v; want %v", id, c.n, c.x, e, c.want)
			}
		}
		wants(api.HelpSum, stack(c.x), num(c.n), num(0))
		wants(api.HelpFind, stack(c.x), num(c.n), num(0))
		wants(api.HelpDiff, stack(c.x), stack(c.x), num(c.n))
		wants(api.HelpCopy, stack(min(c.x, 256-c.n)), stack(c.x), num(c.n))
	}
	wantRefused(t, api.HelpDiff, stack(128), stack(127), num(5))
	wantRefused(t, api.HelpDiff, stack(127), stack(128), num(5))
	wantRefused(t, api.HelpDiff, stack(128), stack(188), num(5))
	wantCalled(t, api.HelpDiff, stack(128), stack(187), num(5), num(-1))
}

// TestWritten: bytes that a helper writes into the stack are written ones; a slot that was a pointer has then these alone.
func TestWritten(t *testing.T) {
	for x := 184; x < 216; x++ {
		for _, n := range []int{1, 3, 8, 13, 20} {
			for _, id := range []int{api.HelpFill, api.HelpCopy} {
				r2, bytes := num(0xcc), slices.Repeat([]byte{0xcc}, n)
				if id == api.HelpCopy {
					r2, bytes = ctx(1), rising(0xf1, n)
				}
				a, b := wantCalled(t, id, stack(x), r2, num(n), num(0))
				for slot := range b.Stack {
					want := a.Stack[slot]
					for k := max(x, 8*slot); k < min(x+n, 8*slot+8); k++ {
						want.Ptr = none
						want.Bytes[k%8] = bytes[k-x]
						want.Mask |= 1 << (k % 8)
					}
					if b.Stack[slot] != want {
						t.Errorf("call %d of %d bytes at %d: the slot %d is %v; want %v", id, n, x, slot, b.Stack[slot], want)
					}
				}
			}
		}
	}
}

// TestFill: the low 8 bits of r2.
func TestFill(t *testing.T) {
	for n, want := range map[int]byte{0: 0, 255: 255, 256: 0, -1: 255, 0x1234: 0x34, least: 0, most: 255, -256 + 7: 7} {
		_, s := wantCalled(t, api.HelpFill, ctx(0), num(n), num(21), num(0))
		if !slices.Equal(s.Ctx, slices.Repeat([]byte{want}, 21)) {
			t.Errorf("filled with %d: %x", n, s.Ctx)
		}
	}
}

// TestCopies: from each region to each other one, and within one, overlapping both ways: the bytes are those that stood there ahead of the call.
func TestCopies(t *testing.T) {
	for _, from := range regions() {
		for _, to := range regions() {
			if to.begin.Kind == api.KindData {
				continue
			}
			source, target := from.begin, to.begin
			if source.Kind == api.KindStack {
				source.X = 128
			}
			if target.Kind == api.KindStack {
				target.X = 128
			}
			for _, d := range [][2]int{{0, 0}, {0, 1}, {1, 0}, {0, 2}, {2, 0}, {3, 1}, {1, 3}} {
				for _, n := range []int{1, 2, 3} {
					a, b := source, target
					a.X += d[0]
					b.X += d[1]
					if a.X+n > 5 && a.Kind == api.KindRow && a.Table == 1 || b.X+n > 5 && b.Kind == api.KindRow && b.Table == 1 {
						continue
					}
					wantCopy(t, b, a, n)
				}
			}
		}
	}
	for _, begin := range []api.Value{stack(130), ctx(0), row(0, 0, 0), row(0, 2, 0)} {
		for _, n := range []int{1, 2, 7, 8, 9, 12, 16} {
			for d := range 3 {
				near, far := begin, begin
				far.X += d
				wantCopy(t, near, far, n)
				wantCopy(t, far, near, n)
			}
		}
	}
	for _, n := range []int{12, 30, 60} {
		for _, d := range []int{1, 4, 8, 11} {
			wantCopy(t, stack(128+d), stack(128), n-d)
			wantCopy(t, stack(128), stack(128+d), n-d)
		}
	}
	// onto the pointers behind what is copied
	wantCopy(t, stack(150), stack(140), 52)
	wantCopy(t, stack(100), stack(128), 64)
}

// wantCopy: the n bytes at to become those that were at from.
func wantCopy(t *testing.T, to, from api.Value, n int) {
	t.Helper()
	a, b := wantCalled(t, api.HelpCopy, to, from, num(n), num(0))
	begin := func(v api.Value) api.Value {
		v.X = 0
		return v
	}
	want := slices.Clone(contents(a, from)[from.X : from.X+n])
	if is := contents(b, begin(to))[to.X : to.X+n]; !slices.Equal(is, want) {
		t.Errorf("%d bytes at %v, copied to %v: %x; want %x", n, from, to, is, want)
	}
}

// TestEmit: numbers are sent in their order; behind MaxSent none, and the answer is -1.
func TestEmit(t *testing.T) {
	w := small(t, "r6 = 0", "top: r1 = r6", "call 6", "r6 += 7", "if r0 == 0 goto top", "exit")
	var want []int
	for n := range 64 {
		want = append(want, 7*n)
		for range 4 {
			if n == 0 && w.o.steps == 0 {
				w.step()
			}
			w.step()
		}
		if s := w.m.State(); !slices.Equal(s.Sent, want) || s.Regs[0] != num(0) {
			t.Fatalf("%v were sent, r0 is %v; want %v", s.Sent, s.Regs[0], want)
		}
	}
	o, e := w.m.Run(9)
	if e != api.OK || o.R0 != -1 || !slices.Equal(o.Sent, want) {
		t.Errorf("Run = %v, %v", o, e)
	}
	for _, n := range []int{least, most, -1} {
		_, s := wantCalled(t, api.HelpEmit, num(n), none, none, num(0))
		if !slices.Equal(s.Sent, []int{n}) {
			t.Errorf("%v were sent; want %d", s.Sent, n)
		}
	}
}

// TestRows (P7.6, 6): the first and the last row of each table, one outside, and tables that there are not.
func TestRows(t *testing.T) {
	for table, rows := range []int{3, 2} {
		for n := range rows {
			wantCalled(t, api.HelpRow, num(table), num(n), none, row(table, n, 0))
		}
		for _, n := range []int{-1, rows, rows + 1, 64, 1 << 32, 1<<32 + 1, least, most} {
			wantCalled(t, api.HelpRow, num(table), num(n), none, num(0))
		}
	}
	for _, table := range []int{-1, 2, 3, 8, 1 << 32, 1<<32 + 1, least, most} {
		wantRefused(t, api.HelpRow, num(table), num(0), none)
		wantRefused(t, api.HelpRow, num(table), num(99), none)
	}
	small(t, "r1 = 0", "r2 = 0", "call 7", "exit").wantSteps(2, api.TrapCall)
	// each row is a region of its own
	for n, bytes := range [][]byte{rising(0x80, 18), rising(0x92, 18), rising(0xa4, 18)} {
		wantCalled(t, api.HelpFind, row(0, n, 0), num(18), num(int(bytes[17])), num(17))
		wantRefused(t, api.HelpFind, row(0, n, 0), num(19), num(0))
		wantRefused(t, api.HelpFind, row(0, n, 17), num(2), num(0))
		wantRefused(t, api.HelpFind, row(0, n, -1), num(2), num(0))
	}
}

// TestLongPieces: pieces of MaxSpan bytes, which the longest context has.
func TestLongPieces(t *testing.T) {
	p := roomy(parsed(t, "r6 = r1", "r7 = r2", "r3 = 5", "call 1", "r8 = r0", "r1 = r6", "r2 = r7", "r3 = 0x55", "call 5", "r9 = r0", "r1 = r6", "r2 = 0x55", "r3 = r7", "call 3", "r1 = r6", "r2 = r6", "r3 = r7", "call 2", "r1 = r6", "r2 = r6", "r3 = r7", "call 4", "r1 = r6", "r1 += 1", "r2 = r7", "r3 = 1", "call 1"))
	p.Hi = 65535
	in := filled(p)
	in.Ctx = make([]byte, 65535)
	in.Ctx[65534] = 0x55
	w := paired(t, p, in)
	for w.o.at != len(p.Code)-1 {
		if e := w.step(); e != api.OK {
			t.Fatalf("%v at %d", e, w.o.at)
		}
	}
	s := w.m.State()
	if s.Regs[8] != num(0x5505) || s.Regs[9] != num(65534) || s.Regs[0] != num(0) || !slices.Equal(s.Ctx, slices.Repeat([]byte{0x55}, 65535)) {
		t.Errorf("the state is%s", shown(s))
	}
	if e := w.step(); e != api.TrapCall {
		t.Errorf("a piece that goes one byte too far: %v; want %v", e, api.TrapCall)
	}
}

// TestCallKinds: values of each kind in r1, r2 and r3 of each helper, against the twin.
func TestCallKinds(t *testing.T) {
	l := []api.Value{none, num(0), num(1), num(-1), num(9), stack(128), stack(190), stack(255), ctx(0), ctx(20), data(3), row(0, 1, 0), row(1, 0, 4)}
	for id := 1; id <= 8; id++ {
		for _, r1 := range l {
			for _, r2 := range l {
				if id > 5 {
					called(t, id, r1, r2, none)
					continue
				}
				for _, r3 := range []api.Value{none, num(0), num(1), num(5), num(-1), ctx(0)} {
					called(t, id, r1, r2, r3)
				}
			}
		}
	}
}
