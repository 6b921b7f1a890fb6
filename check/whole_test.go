package check_test

import (
	"slices"
	"testing"

	"warrant/api"
)

// seen counts what drawn pairs came to.
type seen struct {
	faults map[api.Errno]int // by class, and by what is below it
	edges  map[int]int
	proven int
}

func (s *seen) note(fault api.Fault) {
	s.faults[fault.Class]++
	s.faults[fault.Code]++
	switch fault.Class {
	case api.OK:
		s.proven++
	case api.ErrNotInductive:
		s.edges[fault.Edge]++
	}
}

// TestWhole (P13.1, P13.2): drawn programs with warrants that were found for them, and with such as were turned, held against the chapter's words.
func TestWhole(t *testing.T) {
	t.Parallel()
	found, nests, ghosts := 0, 0, 0
	s := seen{map[api.Errno]int{}, map[int]int{}, 0}
	for seed := range 150 {
		d := rolling(seed)
		c := d.grown(t, d.program(t))
		v, fault := c.held(t)
		if fault.Class == api.ErrNotInductive {
			t.Fatalf("%swas found, and does not hold: %+v", c.told(), fault)
		}
		if v != nil {
			found++
			if slices.ContainsFunc(v.Flow().Loops(), func(l api.Around) bool { return l.Parent >= 0 }) {
				nests++
			}
			if slices.ContainsFunc(c.d.Claims, tellsGhosts) {
				ghosts++
			}
		}
		for range 6 {
			other := d.turned(c)
			if d.one(3) {
				other = d.turned(other)
			}
			_, fault := other.held(t)
			s.note(fault)
		}
	}
	if found < 100 || nests < 15 || ghosts < 40 || s.proven < 150 {
		t.Errorf("%d were found, %d of them with a loop within a loop, %d with ghosts; of the turned %d were proven", found, nests, ghosts, s.proven)
	}
	for _, e := range []api.Errno{api.ErrProgram, api.ErrCFG, api.ErrCert, api.ErrUnsafe, api.ErrNotInductive, api.TrapKind, api.TrapBounds, api.TrapOff, api.TrapCall, api.ErrCons, api.ErrDead, api.ErrGhost, api.ErrReach} {
		if s.faults[e] < 3 {
			t.Errorf("%v was met %d times", e, s.faults[e])
		}
	}
	for edge := -1; edge < 2; edge++ {
		if s.edges[edge] < 20 {
			t.Errorf("the edge %d was told %d times", edge, s.edges[edge])
		}
	}
}

func tellsGhosts(c api.Claim) bool {
	return slices.ContainsFunc(c.Cons, func(c api.Con) bool { return c.I >= ghost0 || c.J >= ghost0 })
}
