package flow_test

import (
	"math"
	"slices"
	"testing"

	"warrant/api"
	"warrant/flow"
)

// Instructions: to does something, ja, far and jeq jump so many units further.
var (
	do   = api.Ins{Op: api.OpMov, Dst: 1, Imm: 5}
	wide = api.Ins{Op: api.OpWide, Dst: 1, Imm: 1 << 40}
	data = api.Ins{Op: api.OpData, Dst: 1}
	call = api.Ins{Op: api.OpCall, Imm: 1}
	exit = api.Ins{Op: api.OpExit}
)

func ja(off int) api.Ins  { return api.Ins{Op: api.OpJa, Off: off} }
func far(imm int) api.Ins { return api.Ins{Op: api.OpJa, Narrow: true, Imm: imm} }
func jeq(off int) api.Ins { return api.Ins{Op: api.OpJeq, Dst: 1, Off: off} }

func list(l ...api.Ins) []api.Ins { return l }

// times is a list so many times, one behind the other.
func times(n int, l ...api.Ins) []api.Ins { return slices.Repeat(l, n) }

func block(from, to int, next ...int) api.Block { return api.Block{From: from, To: to, Next: next} }

func loop(head, parent int, blocks ...int) api.Around {
	return api.Around{Head: head, Blocks: blocks, Parent: parent}
}

// made is the flow of a program that is taken.
func made(t *testing.T, l []api.Ins) *flow.Flow {
	t.Helper()
	f, at, e := flow.Make(l)
	if f == nil || at != 0 || e != api.OK {
		t.Fatalf("Make(%s) = %v, %d, %v", told(l), f, at, e)
	}
	return f
}

func wantRefused(t *testing.T, l []api.Ins, at int, e api.Errno) {
	t.Helper()
	if f, n, g := flow.Make(l); f != nil || n != at || g != e {
		t.Errorf("Make(%s) = %v, %d, %v; want %d, %v", told(l), f, n, g, at, e)
	}
}

func sameBlocks(a, b []api.Block) bool {
	return slices.EqualFunc(a, b, func(x, y api.Block) bool {
		return x.From == y.From && x.To == y.To && slices.Equal(x.Next, y.Next)
	})
}

func sameLoops(a, b []api.Around) bool {
	return slices.EqualFunc(a, b, func(x, y api.Around) bool {
		return x.Head == y.Head && x.Parent == y.Parent && slices.Equal(x.Blocks, y.Blocks)
	})
}

func wantBlocks(t *testing.T, l []api.Ins, want ...api.Block) *flow.Flow {
	t.Helper()
	f := made(t, l)
	if b := f.Blocks(); !sameBlocks(b, want) {
		t.Errorf("of%s: Blocks() = %v; want %v", told(l), b, want)
	}
	return f
}

func wantLoops(t *testing.T, l []api.Ins, want ...api.Around) *flow.Flow {
	t.Helper()
	f := made(t, l)
	if a := f.Loops(); !sameLoops(a, want) {
		t.Errorf("of%s: Loops() = %v; want %v", told(l), a, want)
	}
	return f
}

func wantOrder(t *testing.T, l []api.Ins, want ...int) {
	t.Helper()
	if o := made(t, l).Order(); !slices.Equal(o, want) {
		t.Errorf("of%s: Order() = %v; want %v", told(l), o, want)
	}
}

// wantAll: Make and the methods answer what the chapter's own words come to.
func wantAll(t *testing.T, l []api.Ins) {
	t.Helper()
	want := reckoned(l)
	if want.e != api.OK {
		wantRefused(t, l, want.at, want.e)
		return
	}
	f := wantBlocks(t, l, want.blocks...)
	wantLoops(t, l, want.loops...)
	wantOrder(t, l, want.order...)
	for n := -2; n < len(l)+2; n++ {
		if b := f.Block(n); b != within(want.blocks, n) {
			t.Errorf("of%s: Block(%d) = %d; want %d", told(l), n, b, within(want.blocks, n))
		}
	}
	for a := range want.blocks {
		for b := range want.blocks {
			if is := f.Dominates(a, b); is != want.above[a][b] {
				t.Errorf("of%s: Dominates(%d, %d) = %v", told(l), a, b, is)
			}
		}
	}
}

// TestExamples: every row of the chapter's section Examples.
func TestExamples(t *testing.T) {
	l := list(api.Ins{Op: api.OpMov, Dst: 1, Imm: 5}, api.Ins{Op: api.OpSub, Dst: 1, Imm: 1}, api.Ins{Op: api.OpJne, Dst: 1, Off: -2}, api.Ins{Op: api.OpMov}, exit)
	f := wantBlocks(t, l, block(0, 1, 1), block(1, 3, 1, 2), block(3, 5))
	wantLoops(t, l, loop(1, -1, 1))
	wantOrder(t, l, 0, 1, 2)
	if f.Block(2) != 1 || f.Block(5) != -1 {
		t.Errorf("Block(2), Block(5) = %d, %d", f.Block(2), f.Block(5))
	}
	if !f.Dominates(0, 2) || !f.Dominates(1, 2) || f.Dominates(2, 1) {
		t.Errorf("Dominates(0, 2), (1, 2), (2, 1) = %v, %v, %v", f.Dominates(0, 2), f.Dominates(1, 2), f.Dominates(2, 1))
	}

	wantBlocks(t, list(jeq(0), exit), block(0, 1, 1, 1), block(1, 2))
	wantRefused(t, list(wide, ja(-2), exit), 1, api.ErrTarget)

	wantRefused(t, list(exit, exit), 1, api.ErrReach)
	wantRefused(t, list(do), 0, api.ErrEnd)
	wantRefused(t, list(jeq(0)), 0, api.ErrTarget)

	wantRefused(t, list(jeq(1), api.Ins{Op: api.OpMov}, api.Ins{Op: api.OpJne, Dst: 1, Off: -2}, exit), 1, api.ErrShape)

	l = list(ja(-1))
	wantBlocks(t, l, block(0, 1, 0))
	wantLoops(t, l, loop(0, -1, 0))
	wantOrder(t, l, 0)
}

// TestTargets (P4.1): jumps forward and back, over and to instructions of two units, between their units, and out of the list on both sides.
func TestTargets(t *testing.T) {
	for _, j := range []func(int) api.Ins{ja, far} {
		wantBlocks(t, list(j(1), ja(-1), ja(-2)), block(0, 1, 2), block(1, 2, 1), block(2, 3, 1))
		wantBlocks(t, list(wide, j(-3)), block(0, 2, 0))
		wantBlocks(t, list(j(0), exit), block(0, 1, 1), block(1, 2))
		wantBlocks(t, list(data, jeq(3), wide, j(-6), exit), block(0, 2, 2, 1), block(2, 4, 0), block(4, 5))
		wantRefused(t, list(wide, j(-2)), 1, api.ErrTarget)              // between the units of wide
		wantRefused(t, list(j(1), wide, exit), 0, api.ErrTarget)         // the same, forward
		wantRefused(t, list(jeq(1), j(1), data, exit), 1, api.ErrTarget) // of data
		wantRefused(t, list(j(1), exit), 0, api.ErrTarget)               // the unit behind the last instruction
		wantRefused(t, list(j(2), wide), 0, api.ErrTarget)               // behind one of two units
		wantRefused(t, list(j(1), wide), 0, api.ErrTarget)               // within the last one
		wantRefused(t, list(j(0)), 0, api.ErrTarget)                     // behind itself
		wantRefused(t, list(j(2), exit), 0, api.ErrTarget)               // beyond
		wantRefused(t, list(j(-2), exit), 0, api.ErrTarget)              // ahead of the first unit
		wantRefused(t, list(do, j(-3)), 1, api.ErrTarget)
		wantRefused(t, list(do, j(32767), exit), 1, api.ErrTarget)
		wantRefused(t, list(do, j(-32768), exit), 1, api.ErrTarget)
	}
	wantRefused(t, list(far(math.MaxInt32), exit), 0, api.ErrTarget)
	wantRefused(t, list(far(math.MinInt32), exit), 0, api.ErrTarget)
	wantBlocks(t, list(jeq(2), wide, exit), block(0, 1, 2, 1), block(1, 2, 2), block(2, 3))
	wantRefused(t, list(jeq(1), wide, exit), 0, api.ErrTarget)
	wantRefused(t, list(wide, jeq(-2), exit), 1, api.ErrTarget)
	wantBlocks(t, list(wide, jeq(-3), exit), block(0, 2, 0, 1), block(2, 3))
	wantBlocks(t, list(far(0), exit), block(0, 1, 1), block(1, 2)) // Off says nothing there, and Imm nothing in ja
	for op := api.OpJeq; op <= api.OpJset; op++ {
		for _, narrow := range []bool{false, true} {
			i := api.Ins{Op: op, Narrow: narrow, Dst: 1, Imm: 7, Off: 1} // Imm is no distance of a conditional jump
			wantBlocks(t, list(i, exit, exit), block(0, 1, 2, 1), block(1, 2), block(2, 3))
			i.Reg, i.Imm, i.Src, i.Off = true, 0, 2, -1
			wantBlocks(t, list(i, exit), block(0, 1, 0, 1), block(1, 2))
			i.Off = 1
			wantRefused(t, list(i, exit), 0, api.ErrTarget)
		}
	}
}

// TestAfterWide (P4.1): a target is a unit, not a number of an instruction.
func TestAfterWide(t *testing.T) {
	for n := range 20 {
		l := slices.Concat(list(jeq(2*n)), times(n, wide), list(exit))
		if n == 0 {
			wantBlocks(t, l, block(0, 1, 1, 1), block(1, 2))
			continue
		}
		wantBlocks(t, l, block(0, 1, 2, 1), block(1, n+1, 2), block(n+1, n+2))
		l[0].Off--
		wantRefused(t, l, 0, api.ErrTarget)
		l[0].Off += 2
		wantRefused(t, l, 0, api.ErrTarget)
		l = slices.Concat(times(n, wide), list(jeq(-2*n-1), exit))
		wantBlocks(t, l, block(0, n+1, 0, 1), block(n+1, n+2))
	}
}

// TestBlocks (P4.2, P4.3): where blocks begin and end, and the edges of each kind of last instruction, in their order.
func TestBlocks(t *testing.T) {
	wantBlocks(t, list(exit), block(0, 1))
	wantBlocks(t, list(do, wide, call, exit), block(0, 4))                                    // a call ends no block
	wantBlocks(t, list(jeq(1), do, do, exit), block(0, 1, 2, 1), block(1, 2, 2), block(2, 4)) // one that is jumped to begins one
	wantBlocks(t, list(jeq(1), exit, do, exit), block(0, 1, 2, 1), block(1, 2), block(2, 4))  // one behind exit too
	wantBlocks(t, list(jeq(1), ja(1), do, exit), block(0, 1, 2, 1), block(1, 2, 3), block(2, 3, 3), block(3, 4))
	wantBlocks(t, list(do, jeq(0), do, exit), block(0, 2, 1, 1), block(2, 4))                  // both edges to one block
	wantBlocks(t, list(do, ja(0), do, exit), block(0, 2, 1), block(2, 4))                      // a jump to what is next
	wantBlocks(t, list(do, jeq(-1), exit), block(0, 1, 1), block(1, 2, 1, 2), block(2, 3))     // a jump to itself
	wantBlocks(t, list(do, do, jeq(-2), exit), block(0, 1, 1), block(1, 3, 1, 2), block(3, 4)) // into the midst of a run
	wantBlocks(t, list(jeq(0), jeq(0), jeq(0), exit), block(0, 1, 1, 1), block(1, 2, 2, 2), block(2, 3, 3, 3), block(3, 4))
	wantBlocks(t, list(do, jeq(-2), do, jeq(-2), do, ja(-6)), block(0, 2, 0, 1), block(2, 4, 1, 2), block(4, 6, 0))
	wantBlocks(t, list(jeq(2), do, ja(1), do, exit), block(0, 1, 2, 1), block(1, 3, 3), block(3, 4, 3), block(4, 5))
}

// TestRefused (P4.6): every error, at its place.
func TestRefused(t *testing.T) {
	wantRefused(t, nil, 0, api.ErrNoIns)
	wantRefused(t, []api.Ins{}, 0, api.ErrNoIns)
	wantRefused(t, list(api.Ins{}), 0, api.ErrOp)
	wantRefused(t, list(do, exit, api.Ins{Op: api.OpMov, Dst: 10}), 2, api.ErrReg)
	wantRefused(t, list(do, api.Ins{Op: api.OpMov, Off: 1}, exit), 1, api.ErrField)
	wantRefused(t, list(api.Ins{Op: api.OpDiv}, exit), 0, api.ErrImm)
	wantRefused(t, times(api.MaxIns+1, exit), api.MaxIns, api.ErrMany)
	wantRefused(t, list(do, jeq(0), ja(7), ja(9), exit), 2, api.ErrTarget) // the first of them
	for _, i := range []api.Ins{do, wide, data, call, jeq(-1), {Op: api.OpStore, Size: 8}, {Op: api.OpAtom, Size: 8, Imm: api.AtomXchg}} {
		wantRefused(t, list(i), 0, api.ErrEnd)
		wantRefused(t, list(do, exit, i), 2, api.ErrEnd)
	}
	wantRefused(t, list(ja(1), do, exit), 1, api.ErrReach)
	wantRefused(t, list(exit, do, do, exit, exit), 1, api.ErrReach)
	wantRefused(t, list(ja(2), do, exit, exit), 1, api.ErrReach)
	wantRefused(t, list(ja(1), ja(-1), ja(-1)), 1, api.ErrReach)                    // a block that leads to itself alone
	wantRefused(t, list(jeq(1), exit, ja(2), ja(0), ja(-2), exit), 3, api.ErrReach) // two that lead to one another
	wantRefused(t, list(jeq(2), do, ja(1), do, jeq(-4), exit), 1, api.ErrShape)
}

// TestFirstOfSeveral (P4.6): each error together with each later one of the list in the same program.
func TestFirstOfSeveral(t *testing.T) {
	wrong := api.Ins{Op: api.OpMov, Dst: 10}
	astray, unreached := ja(9999), list(exit, exit)
	many := times(api.MaxBlocks+1, jeq(0))       // and exit: MaxBlocks + 2 blocks
	crossed := list(jeq(1), do, jeq(-2))         // behind it comes something: a cycle without a head
	looped := times(api.MaxLoops+1, do, jeq(-2)) // loops, one behind the other
	later := [][]api.Ins{{astray}, {do}, unreached, many, crossed, looped}
	for _, l := range later {
		wantRefused(t, slices.Concat(l, list(wrong)), len(l), api.ErrReg)
		wantRefused(t, slices.Concat(list(wrong), l), 0, api.ErrReg)
		wantRefused(t, slices.Concat(list(exit), l, list(wrong, astray)), len(l)+1, api.ErrReg)
	}
	for _, l := range [][]api.Ins{{do}, unreached, many, crossed, looped} {
		wantRefused(t, slices.Concat(list(astray), l), 0, api.ErrTarget)
		wantRefused(t, slices.Concat(l, list(astray)), len(l), api.ErrTarget)
		wantRefused(t, slices.Concat(l, list(astray, do)), len(l), api.ErrTarget)
	}
	for _, l := range [][]api.Ins{unreached, many, crossed, looped} {
		wantRefused(t, slices.Concat(l, list(do)), len(l), api.ErrEnd)
		wantRefused(t, slices.Concat(l, list(exit, jeq(-1))), len(l)+1, api.ErrEnd)
	}
	for _, l := range [][]api.Ins{unreached, slices.Concat(crossed, list(exit)), slices.Concat(looped, list(exit))} {
		wantRefused(t, slices.Concat(many, l), api.MaxBlocks, api.ErrBlocks)
	}
	wantRefused(t, slices.Concat(list(exit), many, list(exit)), api.MaxBlocks, api.ErrBlocks)
	wantRefused(t, slices.Concat(crossed, many, list(exit)), api.MaxBlocks, api.ErrBlocks)
	for _, l := range [][]api.Ins{crossed, looped} {
		wantRefused(t, slices.Concat(l, unreached), len(l)+1, api.ErrReach)
		wantRefused(t, slices.Concat(list(exit), l, list(exit)), 1, api.ErrReach)
	}
	wantRefused(t, slices.Concat(crossed, looped, list(exit)), 1, api.ErrShape)
	wantRefused(t, slices.Concat(looped, crossed, list(exit)), len(looped)+1, api.ErrShape)
	wantRefused(t, slices.Concat(looped, list(exit)), 2*api.MaxLoops, api.ErrLoops)
}

// TestHeadless (P4.6): the lowest block of a cycle without a head, alone, inside of a loop, beside one and around one; what leads to such a cycle, or comes from one, is not on it.
func TestHeadless(t *testing.T) {
	wantRefused(t, list(jeq(1), do, ja(-2)), 1, api.ErrShape)
	wantRefused(t, list(do, jeq(1), do, do, jeq(-3), exit), 2, api.ErrShape)
	wantRefused(t, list(jeq(3), do, do, ja(1), do, jeq(-5), exit), 1, api.ErrShape)
	wantRefused(t, list(do, jeq(1), do, jeq(-2), jeq(-5), exit), 2, api.ErrShape) // inside of a loop: its back edge does not heal it
	wantRefused(t, list(do, jeq(-2), jeq(1), do, jeq(-2), exit), 3, api.ErrShape) // behind one
	wantRefused(t, list(jeq(1), do, jeq(-2), do, jeq(-2), exit), 1, api.ErrShape) // ahead of one
	wantRefused(t, list(jeq(2), do, jeq(-2), jeq(-3), exit), 1, api.ErrShape)     // around one: to the midst of it
	wantRefused(t, list(jeq(1), exit, do, jeq(1), ja(1), ja(-2), ja(-2)), 4, api.ErrShape)
	wantRefused(t, list(jeq(4), jeq(1), do, jeq(-2), exit, jeq(1), do, jeq(-2), exit), 2, api.ErrShape) // the lower of two
	wantRefused(t, list(jeq(2), do, ja(2), do, ja(-4), do, ja(-4)), 1, api.ErrShape)                    // of three blocks
	wantLoops(t, list(jeq(1), do, exit))
	wantLoops(t, list(do, jeq(1), do, jeq(-4), exit), loop(0, -1, 0, 1, 2)) // a branch in a loop is none
}
