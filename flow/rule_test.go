package flow_test

import (
	"math"
	"math/rand"
	"slices"
	"sync"
	"testing"

	"warrant/api"
	"warrant/flow"
)

// sample is a program with blocks of no, one and two edges, and loops within one another.
func sample() []api.Ins {
	return list(do, do, jeq(-2), do, jeq(-5), jeq(3), wide, ja(0), do, do, jeq(-2), exit)
}

// snapshot is all that a flow answers.
func snapshot(f *flow.Flow) answers {
	a := answers{blocks: f.Blocks(), order: f.Order(), loops: f.Loops()}
	for n := range a.blocks {
		a.above = append(a.above, nil)
		for b := range a.blocks {
			a.above[n] = append(a.above[n], f.Dominates(n, b))
		}
	}
	return a
}

func same(a, b answers) bool {
	return sameBlocks(a.blocks, b.blocks) && sameLoops(a.loops, b.loops) && slices.Equal(a.order, b.order) && slices.EqualFunc(a.above, b.above, slices.Equal)
}

// spoil writes into a list, into its spare room too.
func spoil(l []int) {
	l = l[:cap(l)]
	for n := range l {
		l[n] = -77
	}
}

// TestAgain (R6): whatever was asked, and in any order, the answers stay.
func TestAgain(t *testing.T) {
	f := made(t, sample())
	want := snapshot(made(t, sample()))
	r := rand.New(rand.NewSource(6))
	for range 300 {
		switch r.Intn(5) {
		case 0:
			f.Block(r.Intn(20) - 4)
		case 1:
			f.Dominates(r.Intn(20)-4, r.Intn(20)-4)
		case 2:
			f.Order()
		case 3:
			f.Loops()
		case 4:
			f.Blocks()
		}
		if r.Intn(10) == 0 && !same(snapshot(f), want) {
			t.Fatal("the answers changed")
		}
	}
}

// TestHandedIn (R3): the program is read as before, in its spare room too, and is not kept.
func TestHandedIn(t *testing.T) {
	for _, bad := range []api.Ins{exit, do, ja(99), {Op: -1}} {
		whole := append(sample(), sample()...)
		l := whole[:len(sample())]
		l[len(l)-1] = bad
		before := slices.Clone(whole)
		f, _, e := flow.Make(l)
		if !slices.Equal(whole, before) {
			t.Fatal("Make changed what it was handed")
		}
		if e != api.OK {
			continue
		}
		want := snapshot(f)
		if !slices.Equal(whole, before) {
			t.Fatal("a method changed the program")
		}
		for n := range whole {
			whole[n] = api.Ins{Op: api.OpExit}
		}
		if !same(snapshot(f), want) {
			t.Fatal("the program was kept")
		}
	}
}

// TestAnswered (R3): lists that are answered are new each time, and those within them share nothing.
func TestAnswered(t *testing.T) {
	f := made(t, sample())
	want := snapshot(made(t, sample()))
	for b := range want.blocks {
		now := f.Blocks()
		spoil(now[b].Next)
		for other := range now {
			if other != b && !slices.Equal(now[other].Next, want.blocks[other].Next) {
				t.Fatalf("the edges of the blocks %d and %d share memory", b, other)
			}
		}
		now = now[:cap(now)]
		for n := range now {
			now[n] = api.Block{From: -77, To: -77}
		}
	}
	for n := range want.loops {
		now := f.Loops()
		spoil(now[n].Blocks)
		for other := range now {
			if other != n && !slices.Equal(now[other].Blocks, want.loops[other].Blocks) {
				t.Fatalf("the blocks of the loops %d and %d share memory", n, other)
			}
		}
		now = now[:cap(now)]
		for n := range now {
			now[n] = api.Around{Head: -77, Parent: -77}
		}
	}
	spoil(f.Order())
	if !same(snapshot(f), want) {
		t.Fatal("what was answered is the flow's own")
	}
}

// TestSideBySide (R4, R6): flows do not touch one another, nor do those who ask one at a time.
func TestSideBySide(t *testing.T) {
	other := nested(api.MaxLoops)
	f, g := made(t, sample()), made(t, other)
	wantF, wantG := snapshot(made(t, sample())), snapshot(made(t, other))
	if !same(snapshot(f), wantF) || !same(snapshot(g), wantG) || same(wantF, wantG) {
		t.Fatal("two flows touch one another")
	}
	var all sync.WaitGroup
	wrong := make([]bool, 16)
	for n := range wrong {
		all.Add(1)
		go func() {
			defer all.Done()
			for range 20 {
				again, _, e := flow.Make(other)
				wrong[n] = wrong[n] || e != api.OK || !same(snapshot(again), wantG) || !same(snapshot(f), wantF) || !same(snapshot(g), wantG)
			}
		}()
	}
	all.Wait()
	if slices.Contains(wrong, true) {
		t.Fatal("flows that are asked side by side answer otherwise")
	}
}

// TestAnything (R1): Make and the methods end, and do not panic, at whatever they are handed.
func TestAnything(t *testing.T) {
	r := rand.New(rand.NewSource(1))
	numbers := []int{math.MinInt, math.MinInt64 + 1, math.MinInt32, -32769, -32768, -3, -2, -1, 0, 1, 2, 3, 10, 11, 64, 32767, 32768, math.MaxInt32, math.MaxInt32 + 1, math.MaxInt - 1, math.MaxInt}
	pick := func() int { return numbers[r.Intn(len(numbers))] }
	for range 30000 {
		var l []api.Ins
		for range r.Intn(6) {
			i := stray(r, 6)
			switch r.Intn(12) {
			case 0:
				i.Op = pick()
			case 1:
				i.Off = pick()
			case 2:
				i.Imm = pick()
			case 3:
				i = api.Ins{Op: r.Intn(45) - 2, Narrow: r.Intn(2) == 0, Reg: r.Intn(2) == 0, Size: pick(), Dst: pick(), Src: pick(), Off: pick(), Imm: pick()}
			}
			l = append(l, i)
		}
		f, at, e := flow.Make(l)
		if (f == nil) != (e != api.OK) || e == api.OK && at != 0 || at < 0 || at > len(l) {
			t.Fatalf("Make(%s) = %v, %d, %v", told(l), f, at, e)
		}
		if f != nil {
			snapshot(f)
			f.Block(pick())
			f.Dominates(pick(), pick())
		}
	}
}
