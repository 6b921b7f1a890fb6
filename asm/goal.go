package asm

import (
	"strconv"

	"warrant/jumps"
)

// labels are the names of the instructions that jumps lead to, numbered as these stand; "" of all others.
func labels(goals []int) []string {
	is := make([]bool, len(goals))
	for _, to := range goals {
		if to != jumps.Nowhere {
			is[to] = true
		}
	}
	names := make([]string, len(goals))
	next := 0
	for n := range names {
		if is[n] {
			names[n] = "L" + strconv.Itoa(next)
			next++
		}
	}
	return names
}
