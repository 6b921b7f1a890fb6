package flow_test

import (
	"math"
	"math/rand"
	"slices"
	"testing"

	"warrant/api"
	"warrant/flow"
)

// TestLoops (P4.5, P4.8): loops alone, beside and within one another, with several back edges, at the block 0 and of one block.
func TestLoops(t *testing.T) {
	wantLoops(t, list(do, exit))
	wantLoops(t, list(ja(-1)), loop(0, -1, 0))
	wantLoops(t, list(jeq(-1), exit), loop(0, -1, 0))
	wantLoops(t, list(do, do, ja(-3)), loop(0, -1, 0))
	wantLoops(t, list(do, do, ja(-2)), loop(1, -1, 1))
	wantLoops(t, list(do, jeq(-2), do, jeq(-2), exit), loop(0, -1, 0), loop(1, -1, 1))
	wantLoops(t, list(do, do, jeq(-2), jeq(-4), exit), loop(0, -1, 0, 1, 2), loop(1, 0, 1))
	wantLoops(t, list(do, jeq(-2), jeq(-3), exit), loop(0, -1, 0, 1))           // two back edges to one head
	wantLoops(t, list(do, jeq(1), ja(-3), jeq(-4), exit), loop(0, -1, 0, 1, 2)) // from both sides of a branch
	wantLoops(t, list(do, jeq(1), exit, jeq(-4), exit), loop(0, -1, 0, 2))      // what leaves is not in it
	wantLoops(t, list(jeq(3), do, jeq(1), ja(-3), exit), loop(1, -1, 1, 2))
	wantLoops(t, list(jeq(4), do, jeq(-2), do, ja(-5), exit), loop(0, -1, 0, 1, 2), loop(1, 0, 1))
	wantLoops(t, list(do, do, do, jeq(-2), jeq(-4), jeq(-6), exit), loop(0, -1, 0, 1, 2, 3, 4), loop(1, 0, 1, 2, 3), loop(2, 1, 2))
	wantLoops(t, list(do, do, jeq(-2), do, jeq(-2), jeq(-6), exit), loop(0, -1, 0, 1, 2, 3), loop(1, 0, 1), loop(2, 0, 2))
	wantLoops(t, list(do, do, jeq(-2), jeq(-4), do, jeq(-2), exit), loop(0, -1, 0, 1, 2), loop(1, 0, 1), loop(3, -1, 3))
	wantLoops(t, list(ja(2), jeq(3), ja(0), do, ja(-4), exit), loop(3, -1, 1, 2, 3))                            // its blocks ahead of its head
	wantLoops(t, list(ja(3), do, jeq(-2), ja(0), jeq(1), ja(-5), exit), loop(1, 1, 1), loop(3, -1, 1, 2, 3, 4)) // a Parent that comes later
}

// nested are so many loops within one another, the head of each an instruction.
func nested(n int) []api.Ins {
	l := times(n, do)
	for k := n - 1; k >= 0; k-- {
		l = append(l, jeq(k-len(l)-1))
	}
	return append(l, exit)
}

// TestMaxLoops (P4.6): MaxLoops loops, and one more.
func TestMaxLoops(t *testing.T) {
	for n := range api.MaxLoops + 1 {
		var within, beside []api.Around
		for k := range n {
			var blocks []int
			for b := k; b <= 2*n-2-k; b++ {
				blocks = append(blocks, b)
			}
			within = append(within, loop(k, k-1, blocks...))
			beside = append(beside, loop(k, -1, k))
		}
		wantLoops(t, nested(n), within...)
		wantLoops(t, append(times(n, do, jeq(-2)), exit), beside...)
	}
	for n := api.MaxLoops + 1; n < 12; n++ {
		wantRefused(t, nested(n), api.MaxLoops, api.ErrLoops)
		wantRefused(t, append(times(n, do, jeq(-2)), exit), 2*api.MaxLoops, api.ErrLoops)
	}
	wantRefused(t, append(times(api.MaxBlocks-1, jeq(-1)), exit), api.MaxLoops, api.ErrLoops)
}

// TestMaxBlocks (P4.6): MaxBlocks blocks, and one more; of one instruction each, and of a program of MaxIns.
func TestMaxBlocks(t *testing.T) {
	most := append(times(api.MaxBlocks-1, jeq(0)), exit)
	long := slices.Concat(times(api.MaxBlocks-1, do, wide, do, do, do, do, do, jeq(0)), times(7, do), list(exit))
	if len(long) != api.MaxIns {
		t.Fatal(len(long))
	}
	for _, l := range [][]api.Ins{most, long} {
		f := made(t, l)
		size := len(l) / api.MaxBlocks
		for b, is := range f.Blocks() {
			next := []int{b + 1, b + 1}
			if b == api.MaxBlocks-1 {
				next = nil
			}
			if is.From != b*size || is.To != (b+1)*size || !slices.Equal(is.Next, next) {
				t.Fatalf("of %d blocks the block %d is %v", api.MaxBlocks, b, is)
			}
			if f.Order()[b] != b || f.Block(b*size) != b || f.Block(b*size+size-1) != b || !f.Dominates(0, b) || !f.Dominates(b, b) || f.Dominates(b, 0) != (b == 0) || !f.Dominates(b, api.MaxBlocks-1) {
				t.Fatalf("of %d blocks the block %d does not stand in its row", api.MaxBlocks, b)
			}
		}
	}
	wantRefused(t, append(times(api.MaxBlocks, jeq(0)), exit), api.MaxBlocks, api.ErrBlocks)
	wantRefused(t, append(times(api.MaxBlocks, do, ja(0)), exit), 2*api.MaxBlocks, api.ErrBlocks)
	wantRefused(t, append(times(api.MaxIns-1, jeq(0)), exit), api.MaxBlocks, api.ErrBlocks)
	wantRefused(t, times(api.MaxIns, exit), api.MaxBlocks, api.ErrBlocks)
	wantRefused(t, times(api.MaxIns, ja(-1)), api.MaxBlocks, api.ErrBlocks)
}

// TestMaxIns: programs of MaxIns instructions in few blocks.
func TestMaxIns(t *testing.T) {
	f := wantBlocks(t, append(times(api.MaxIns-1, do), exit), block(0, api.MaxIns))
	if f.Block(api.MaxIns-1) != 0 || f.Block(api.MaxIns) != -1 {
		t.Errorf("Block(%d), Block(%d) = %d, %d", api.MaxIns-1, api.MaxIns, f.Block(api.MaxIns-1), f.Block(api.MaxIns))
	}
	wantBlocks(t, append(times(api.MaxIns-1, wide), ja(-2*api.MaxIns+1)), block(0, api.MaxIns, 0))
	wantBlocks(t, append(times(api.MaxIns-1, wide), far(-2*api.MaxIns+1)), block(0, api.MaxIns, 0))
	wantRefused(t, append(times(api.MaxIns-1, wide), far(-2*api.MaxIns)), api.MaxIns-1, api.ErrTarget)
	wantBlocks(t, slices.Concat(list(jeq(2*api.MaxIns-4)), times(api.MaxIns-2, wide), list(exit)), block(0, 1, 2, 1), block(1, api.MaxIns-1, 2), block(api.MaxIns-1, api.MaxIns))
	wantRefused(t, times(api.MaxIns, do), api.MaxIns-1, api.ErrEnd)
	wantRefused(t, append(times(api.MaxIns, do), exit), api.MaxIns, api.ErrMany)
}

// TestLong: programs of many blocks whose edges go far: each ends in good time.
func TestLong(t *testing.T) {
	const n = api.MaxBlocks
	ladder, comb := times(n, exit), times(n, exit)
	var all []int
	for b := range n - 1 {
		ladder[b], comb[b] = jeq(min(b+2, n-1)-b-1), jeq(n-1-b-1)
		all = append(all, b)
	}
	comb[n-1] = ja(-n)
	inLadder := wantLoops(t, ladder)
	inComb := wantLoops(t, comb, loop(0, -1, append(all, n-1)...))
	for a := range n {
		for b := range n {
			if inLadder.Dominates(a, b) != (a == 0 || a == b) {
				t.Fatalf("in the ladder: Dominates(%d, %d) = %v", a, b, inLadder.Dominates(a, b))
			}
			if inComb.Dominates(a, b) != (a == 0 || a == b || a < b && b < n-1) {
				t.Fatalf("in the comb: Dominates(%d, %d) = %v", a, b, inComb.Dominates(a, b))
			}
		}
	}
	for b := range n - 1 {
		ladder[b] = jeq((b*377+11)%n - b - 1)
	}
	if f, _, e := flow.Make(ladder); f != nil || e != api.ErrShape {
		t.Errorf("a program of edges to and fro: %v", e)
	}
}

// TestNumbers (P4.7): Block and Dominates at numbers that are none.
func TestNumbers(t *testing.T) {
	l := list(do, wide, jeq(-4), do, exit)
	f := wantBlocks(t, l, block(0, 3, 0, 1), block(3, 5))
	for n, want := range []int{0, 0, 0, 1, 1} {
		if f.Block(n) != want {
			t.Errorf("Block(%d) = %d; want %d", n, f.Block(n), want)
		}
	}
	foreign := []int{math.MinInt, math.MinInt32, -64, -2, -1, 64, 4096, math.MaxInt32, math.MaxInt}
	for _, n := range append(foreign, 5, 6) {
		if f.Block(n) != -1 {
			t.Errorf("Block(%d) = %d", n, f.Block(n))
		}
	}
	for _, n := range append(foreign, 2, 3, 63) {
		if f.Dominates(n, n) || f.Dominates(n, 0) || f.Dominates(0, n) || f.Dominates(n, 1) || f.Dominates(1, n) || f.Dominates(n, -1) {
			t.Errorf("%d dominates, or is dominated", n)
		}
	}
	if !f.Dominates(0, 0) || !f.Dominates(0, 1) || !f.Dominates(1, 1) || f.Dominates(1, 0) {
		t.Error("the blocks themselves do not dominate as they should")
	}
}

// TestOrder (P4.9): the taken edge is walked first, so it stands later.
func TestOrder(t *testing.T) {
	wantOrder(t, list(exit), 0)
	wantOrder(t, list(jeq(1), exit, exit), 0, 1, 2)
	wantOrder(t, list(jeq(2), do, exit, do, exit), 0, 1, 2)
	wantOrder(t, list(jeq(2), do, ja(1), do, exit), 0, 1, 2, 3)
	wantOrder(t, list(ja(1), exit, jeq(-2), exit), 0, 2, 3, 1)
	wantOrder(t, list(ja(2), do, exit, jeq(-3), ja(-4)), 0, 2, 3, 1)
	wantOrder(t, list(jeq(3), jeq(1), exit, exit, exit), 0, 1, 2, 3, 4)
	wantOrder(t, list(do, jeq(1), ja(-3), exit), 0, 1, 2)
	wantOrder(t, list(jeq(3), do, jeq(1), ja(-3), exit), 0, 1, 2, 3)
	wantOrder(t, list(ja(3), do, jeq(-2), ja(0), jeq(1), ja(-5), exit), 0, 3, 4, 1, 2, 5)
}

// stray is some instruction; a jump goes about as far as there are units.
func stray(r *rand.Rand, n int) api.Ins {
	switch off := r.Intn(2*n) - n; r.Intn(12) {
	case 0:
		return do
	case 1:
		return wide
	case 2:
		return ja(off)
	case 3:
		return far(off)
	case 4:
		return exit
	case 5:
		return data
	case 6:
		return call
	default:
		return api.Ins{Op: api.OpJeq + r.Intn(11), Narrow: r.Intn(2) == 0, Dst: r.Intn(11), Imm: r.Intn(9), Off: off}
	}
}

// aimed are so many instructions whose jumps all lead to some instruction, and of which the last does not go on.
func aimed(r *rand.Rand, n int) []api.Ins {
	var l []api.Ins
	for range n {
		l = append(l, stray(r, n))
	}
	if l[n-1].Op != api.OpJa {
		l[n-1] = exit
	}
	u := units(l)
	for k := range l {
		switch to := u[r.Intn(n)] - u[k+1]; {
		case l[k].Op == api.OpJa && l[k].Narrow:
			l[k].Imm = to
		case jump(l[k].Op):
			l[k].Off = to
		}
	}
	return l
}

// TestAgainstTheWords: small programs of whatever instructions, and greater ones whose jumps all lead somewhere, against the chapter's own words.
func TestAgainstTheWords(t *testing.T) {
	r := rand.New(rand.NewSource(4))
	came := map[api.Errno]int{}
	for range 60000 {
		var l []api.Ins
		n := r.Intn(7)
		for range n {
			l = append(l, stray(r, n))
		}
		wantAll(t, l)
		l = aimed(r, 1+r.Intn(9))
		wantAll(t, l)
		came[reckoned(l).e]++
		if t.Failed() {
			return
		}
	}
	for range 300 {
		l := aimed(r, 10+r.Intn(30))
		wantAll(t, l)
		came[reckoned(l).e]++
	}
	for _, e := range []api.Errno{api.OK, api.ErrReach, api.ErrShape} {
		if came[e] < 1000 {
			t.Errorf("only %d programs with %v came", came[e], e)
		}
	}
}

// stretch is the units that a list takes.
func stretch(l []api.Ins) int { return units(l)[len(l)] }

// woven is a program of branches and loops within one another, with one way in and one way out at its end.
func woven(r *rand.Rand, deep int) []api.Ins {
	if deep == 0 {
		return [][]api.Ins{{do}, {wide}, {call}, {jeq(0)}, {ja(0)}, {do, jeq(-2)}}[r.Intn(6)]
	}
	a, b := woven(r, deep-1), woven(r, deep-1-r.Intn(deep))
	switch r.Intn(6) {
	case 0:
		return slices.Concat(list(jeq(stretch(a))), a) // if
	case 1:
		return slices.Concat(list(jeq(stretch(a)+1)), a, list(ja(stretch(b))), b) // if and else
	case 2:
		return slices.Concat(list(jeq(stretch(a)+1)), a, list(far(-stretch(a)-2))) // while
	case 3:
		return slices.Concat(a, list(jeq(-stretch(a)-1))) // do, while
	}
	return slices.Concat(a, b)
}

// TestWoven: programs of branches and loops within one another are taken, and answered as the chapter's words have it.
func TestWoven(t *testing.T) {
	r := rand.New(rand.NewSource(44))
	loops := 0
	for range 400 {
		l := append(woven(r, 1+r.Intn(5)), exit)
		wantAll(t, l)
		switch e := reckoned(l).e; e {
		case api.OK:
			loops += len(reckoned(l).loops)
			purposes(t, r, l)
		case api.ErrLoops:
		default:
			t.Errorf("of%s: %v", told(l), e)
		}
	}
	if loops < 300 {
		t.Errorf("only %d loops came", loops)
	}
}

// hopping are so many blocks of one jump each, which leads to one of the next ones, seldom back, but in the first ones to and fro.
func hopping(r *rand.Rand, n, first int) []api.Ins {
	l := times(n, exit)
	for b := range n - 1 {
		to := min(n-1, b+1+r.Intn(6))
		if r.Intn(n) < 2 {
			to = r.Intn(n)
		}
		if b < first && r.Intn(2) == 0 {
			to = r.Intn(min(n, first))
		}
		l[b] = jeq(to - b - 1)
	}
	return l
}

// TestHopping: programs of up to some 140 blocks, with a few edges back, against the chapter's own words.
func TestHopping(t *testing.T) {
	r := rand.New(rand.NewSource(444))
	came := map[api.Errno]int{}
	for n := range 300 {
		l := hopping(r, 2+n*7%140, 0)
		wantAll(t, l)
		wantAll(t, hopping(r, 66+n%9, 4+n%28))
		came[reckoned(l).e]++
	}
	if came[api.OK] < 50 || came[api.ErrShape] < 50 {
		t.Errorf("what came: %v", came)
	}
}

// tangled are so many jumps, some of them to and fro, and a block for each further one behind them.
func tangled(r *rand.Rand, n, more int) []api.Ins {
	var l []api.Ins
	for b := range n {
		switch to := r.Intn(n); r.Intn(8) {
		case 0:
			l = append(l, ja(to-b-1))
		case 1, 2, 3:
			l = append(l, jeq(to-b-1))
		default:
			l = append(l, jeq(r.Intn(min(4, n-b))))
		}
	}
	return append(append(l, times(more, jeq(0))...), exit)
}

// TestTangled: cycles across one another, where who dominates whom is seen only when all edges were gone along several times.
func TestTangled(t *testing.T) {
	l := list(jeq(1), jeq(1), jeq(2), jeq(2), jeq(-2), jeq(-4), jeq(1), jeq(1), jeq(-5))
	for _, more := range []int{0, 60, 130} {
		wantRefused(t, slices.Concat(l, times(more, jeq(0)), list(exit)), 2, api.ErrShape)
	}
	r := rand.New(rand.NewSource(4444))
	for n := range 60000 {
		wantAll(t, tangled(r, 4+n%13, n%2))
		if t.Failed() {
			return
		}
	}
}
