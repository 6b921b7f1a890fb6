package rank

import (
	"slices"

	"warrant/api"
)

// many is more than is ever taken: what would be above it is told as this.
const many = api.MaxSteps + 1

// product is of two numbers from 0 to many.
func product(a, b int) int {
	if a != 0 && b > many/a {
		return many
	}
	return a * b
}

// visits are how often each loop's head is come to between two times that the loop is entered.
func (l *look) visits() []int {
	var all []int
	for h, r := range l.ranks {
		n := 0
		if !l.idle(h) {
			n = comings(l.begun(h).Bound(r.A, r.B).C+r.K, r.D)
		}
		all = append(all, n)
	}
	return all
}

// comings are how many numbers from the greatest one down there can be, each less by so much, none below 0.
func comings(greatest, less int) int {
	if greatest < 0 {
		return 0
	}
	return min(greatest/less+1, many)
}

// times are how often each block is come to.
func (l *look) times(visits []int) []int {
	var all []int
	for b := range l.blocks {
		n := 1
		if l.claims[b].Dead {
			n = 0
		}
		for h, loop := range l.loops {
			if slices.Contains(loop.Blocks, b) {
				n = product(n, visits[h])
			}
		}
		all = append(all, n)
	}
	return all
}

// bound is how many steps a run takes at most.
func (l *look) bound(times []int) int {
	n := 0
	for k, b := range l.blocks {
		n = min(n+product(times[k], b.To-b.From), many)
	}
	return n
}
