package check

import (
	"testing"

	"warrant/api"
	"warrant/asm"
	"warrant/flow"
	"warrant/shape"
	"warrant/zone"
)

// walking is a walk over a text, whose claims say nothing.
func walking(t *testing.T, text string, ranks ...api.Loop) *walk {
	t.Helper()
	l, line, e := asm.Parse(text)
	if e != api.OK {
		t.Fatal(line, e)
	}
	f, at, e := flow.Make(l)
	if e != api.OK {
		t.Fatal(at, e)
	}
	return begun(api.Program{Code: l}, f, api.Deed{Loops: ranks, Claims: make([]api.Claim, len(f.Blocks()))})
}

// crossed is a shape of no state whose zone is not the empty one, as no claim tells it: r4 is 0 at least, and -7 at most, r3 is 3.
func crossed(t *testing.T) *shape.Shape {
	t.Helper()
	const x, y, p, w = 5, 6, 7, 8
	with := func(z *zone.Zone, cs ...api.Con) *zone.Zone {
		now, e := z.With(cs...)
		if e != api.OK || now.Empty() {
			t.Fatal(e)
		}
		return now
	}
	three := []api.Con{{I: p, J: 0, C: 0}, {I: 0, J: y, C: 0}, {I: y, J: w, C: 3}}
	z := with(with(zone.New(), three...), api.Con{I: p, J: y, C: -5}, api.Con{I: p, J: w, C: -20}, api.Con{I: 0, J: w, C: 1})
	z = with(z.Widen(with(zone.New(), three...)), api.Con{I: w, J: p, C: -10})
	z, e := z.Assign(x, 0, 3)
	if e != api.OK {
		t.Fatal(e)
	}
	n := api.Tag{Kind: api.KindNum}
	s, e := shape.Make([10]api.Tag{3: n, 4: n, 5: n, 6: n}, [api.Slots]api.Tag{}, z)
	if e != api.OK || s.Dead() {
		t.Fatal(e)
	}
	return s
}

// TestBehindADeadStep (P13.1, P13.2): behind a step that leaves a dead shape nothing is asked in its block, and all shapes are dead, those on the edges too; the blocks behind it are asked.
func TestBehindADeadStep(t *testing.T) {
	for _, text := range []string{"r3 += r4\nr0 = r9\nr1 = u8 [r9]\nexit", "r3 += r4\nr0 = r9\nif r9 == 0 goto end\nr0 = 1\nend: exit", "r3 += r4\nexit"} {
		w := walking(t, text)
		w.claims[0] = crossed(t)
		for k := range w.blocks[1:] {
			w.claims[1+k] = shape.Dead()
		}
		if fault := w.fault(); fault != (api.Fault{}) {
			t.Errorf("%s: %+v", text, fault)
		}
		v := &Proven{ahead: w.ahead, onward: w.onward}
		for i := range w.program.Code {
			if v.Before(i).Dead() != (i > 0) {
				t.Errorf("%s: ahead of %d it is dead: %t", text, i, i == 0)
			}
		}
		if !v.Post(0, 0).Dead() || !v.Post(0, 1).Dead() {
			t.Errorf("%s: an edge is not dead", text)
		}
	}
	w := walking(t, "r3 += r4\nr0 = r9\nif r9 == 0 goto end\nr0 = r9\nend: exit")
	w.claims[0] = crossed(t)
	if fault := w.fault(); fault != (api.Fault{Class: api.ErrUnsafe, Code: api.TrapKind, Block: 1, Ins: 3}) {
		t.Errorf("the block behind it: %+v", fault)
	}
	w = walking(t, "r5 += r6\nr0 = r9\nexit") // a sum of others, which empties nothing
	w.claims[0] = crossed(t)
	if fault := w.fault(); fault != (api.Fault{Class: api.ErrUnsafe, Code: api.TrapKind, Ins: 1}) {
		t.Errorf("a step that leaves a shape: %+v", fault)
	}
}

// TestArrived (P13.1): on an edge the ghosts of the loops that do not hold its goal, or whose head that is, are forgotten, and all else stays. (No claim may tell of these ghosts, so Check's answers do not show it.)
func TestArrived(t *testing.T) {
	w := walking(t, "r0 = 0\nouter: r0 += 1\ninner: r0 += 2\nif r0 == 9 goto inner\nif r0 == 8 goto outer\nlone: r0 += 3\nif r0 == 7 goto lone\nexit",
		api.Loop{Head: 1, A: 2, D: 1}, api.Loop{Head: 2, A: 2, D: 1}, api.Loop{Head: 4, A: 2, D: 1})
	z := zone.New()
	for g := api.VarGhost; g < api.VarGhost+8; g++ {
		z, _ = z.With(api.Con{I: g, C: g}, api.Con{I: 2, J: g, C: 1})
	}
	n := api.Tag{Kind: api.KindNum}
	s, e := shape.Make([10]api.Tag{0: n}, [api.Slots]api.Tag{31: n}, z)
	if e != api.OK {
		t.Fatal(e)
	}
	kept := [][4]bool{0: {3: true}, 1: {3: true}, 2: {0: true, 3: true}, 3: {0: true, 3: true}, 4: {3: true}, 5: {3: true}} // the fourth is of no loop
	if len(w.blocks) != len(kept) {
		t.Fatalf("%d blocks", len(w.blocks))
	}
	for goal, want := range kept {
		now := w.arrived(goal, s)
		if now.Dead() || now.Tag(2) != n || now.Tag(43) != n || now.Bound(2, 0) != s.Bound(2, 0) {
			t.Errorf("to %d: more is gone", goal)
		}
		for h, is := range want {
			for _, g := range []int{api.VarGhost + 2*h, api.VarGhost + 2*h + 1} {
				if now.Bound(g, 0).Is != is || now.Bound(2, g).Is != is {
					t.Errorf("to %d: the ghost %d: %v; want %t", goal, g, now.Bound(g, 0), is)
				}
			}
		}
	}
	if !w.arrived(2, shape.Dead()).Dead() {
		t.Error("a dead shape is no longer")
	}
}
