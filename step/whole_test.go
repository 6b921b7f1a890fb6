package step_test

import (
	"testing"

	"warrant/api"
	"warrant/shape"
)

// TestWhole (P10.1 to P10.9): instructions one after the other, over shapes that come of one another, held against the chapter's words.
func TestWhole(t *testing.T) {
	taken, traps := map[int]int{}, map[api.Errno]int{}
	dead := 0
	for seed := range 60 {
		d := rolling(seed)
		p := program()
		known := make([]*shape.Shape, 8)
		for n := range known {
			known[n] = d.some(t)
		}
		for range 600 {
			n := d.Intn(len(known))
			c := d.call(p, known[n])
			s, e := c.held(t, p)
			switch {
			case e != api.OK:
				traps[e]++
				if d.Intn(4) == 0 {
					known[n] = d.some(t)
				}
				continue
			case s.Dead():
				dead++
			default:
				taken[c.i.Op]++
			}
			if known[n] = s; s.Dead() || d.Intn(8) == 0 {
				known[n] = d.some(t)
			}
		}
	}
	for op := api.OpAdd; op <= api.OpExit; op++ {
		if taken[op] < 20 {
			t.Errorf("the operation %d was let through %d times", op, taken[op])
		}
	}
	for _, e := range []api.Errno{api.ErrData, api.TrapKind, api.TrapBounds, api.TrapInit, api.TrapWrite, api.TrapDiv, api.TrapOff, api.TrapLeak, api.TrapCall} {
		if traps[e] < 20 {
			t.Errorf("%v came %d times", e, traps[e])
		}
	}
	if dead < 100 {
		t.Errorf("%d were dead", dead)
	}
}
