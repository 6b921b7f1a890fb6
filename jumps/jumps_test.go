package jumps_test

import (
	"slices"
	"testing"

	"warrant/api"
	"warrant/jumps"
)

// TestIs: the operations from OpJa to OpJset jump, no others.
func TestIs(t *testing.T) {
	for op := -1; op < 50; op++ {
		if is := op >= api.OpJa && op <= api.OpJset; jumps.Is(op) != is {
			t.Errorf("Is(%d) = %v", op, !is)
		}
	}
}

// TestDistance: it is in Off, of OpJa with Narrow in Imm; what is led elsewhere keeps all else.
func TestDistance(t *testing.T) {
	for _, c := range []struct {
		i, led api.Ins
		was    int
	}{
		{api.Ins{Op: api.OpJa, Off: 3}, api.Ins{Op: api.OpJa, Off: -9}, 3},
		{api.Ins{Op: api.OpJa, Narrow: true, Imm: 70000}, api.Ins{Op: api.OpJa, Narrow: true, Imm: -9}, 70000},
		{api.Ins{Op: api.OpJeq, Dst: 1, Imm: 5, Off: -3}, api.Ins{Op: api.OpJeq, Dst: 1, Imm: 5, Off: -9}, -3},
		{api.Ins{Op: api.OpJset, Narrow: true, Dst: 1, Imm: 5, Off: 2}, api.Ins{Op: api.OpJset, Narrow: true, Dst: 1, Imm: 5, Off: -9}, 2},
	} {
		if d := jumps.Distance(c.i); d != c.was {
			t.Errorf("Distance(%+v) = %d; want %d", c.i, d, c.was)
		}
		if led := jumps.Led(c.i, -9); led != c.led {
			t.Errorf("Led(%+v, -9) = %+v; want %+v", c.i, led, c.led)
		}
	}
}

// TestGoals: each jump's instruction, by units; Nowhere of what does not jump, or to none.
func TestGoals(t *testing.T) {
	wide, exit := api.Ins{Op: api.OpWide}, api.Ins{Op: api.OpExit}
	ja := func(off int) api.Ins { return api.Ins{Op: api.OpJa, Off: off} }
	for _, c := range []struct {
		l    []api.Ins
		want []int
	}{
		{nil, nil},
		{[]api.Ins{exit}, []int{-1}},
		{[]api.Ins{ja(-1), ja(-2), ja(0)}, []int{0, 0, -1}},
		{[]api.Ins{ja(2), wide, exit, ja(-2), ja(-3), ja(-4), ja(-5)}, []int{2, -1, -1, 2, 2, 2, 2}},
		{[]api.Ins{ja(1), wide, ja(-2), ja(-4), ja(-6), ja(-7), ja(-8)}, []int{-1, -1, -1, 1, 0, 0, 0}},
	} {
		if to := jumps.Goals(c.l); !slices.Equal(to, c.want) {
			t.Errorf("Goals(%+v) = %v; want %v", c.l, to, c.want)
		}
	}
}
