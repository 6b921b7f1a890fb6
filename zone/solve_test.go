package zone_test

import (
	"math/rand"

	"warrant/api"
)

// Assignments, found and drawn without zones.

// numbers is an assignment: a whole number for each variable, 0 for the variable 0.
type numbers [vars]int

func (a *numbers) meets(c api.Con) bool { return a[c.I]-a[c.J] <= c.C }

func (a *numbers) meetsAll(cs []api.Con) bool {
	for _, c := range cs {
		if !a.meets(c) {
			return false
		}
	}
	return true
}

// solve is an assignment that meets all the Cons; false, if there is none. (Whatever is too great is lowered, at first all are alike; what is still lowered after so many rounds as there are variables goes round in a circle.)
func solve(cs ...api.Con) (numbers, bool) {
	var a numbers
	for range vars + 1 {
		still := true
		for _, c := range cs {
			if !a.meets(c) {
				if c.I == c.J {
					return numbers{}, false
				}
				a[c.I], still = a[c.J]+c.C, false
			}
		}
		if still {
			zero := a[0]
			for v := range a {
				a[v] -= zero
			}
			return a, true
		}
	}
	return numbers{}, false
}

// equal says that i less j is just c.
func equal(i, j, c int) []api.Con { return []api.Con{{I: i, J: j, C: c}, {I: j, J: i, C: -c}} }

// but says that all variables have the numbers of the assignment, but for some.
func but(a numbers, vs ...int) []api.Con {
	var l []api.Con
	for v := 1; v < vars; v++ {
		free := false
		for _, w := range vs {
			free = free || v == w
		}
		if !free {
			l = append(l, equal(v, 0, a[v])...)
		}
	}
	return l
}

// drawn is an assignment that meets all the Cons, at random as far as they leave it open; there must be one.
func drawn(r *rand.Rand, cs []api.Con, among []int) numbers {
	for range 6 {
		i, j := among[r.Intn(len(among))], among[r.Intn(len(among))]
		more := append(cs[:len(cs):len(cs)], api.Con{I: i, J: j, C: r.Intn(60) - 40})
		if _, ok := solve(more...); ok {
			cs = more
		}
	}
	a, _ := solve(cs...)
	return a
}
