// Package jumps tells where jumps lead to (P4.1), for all layers that ask: those that write, cut or run programs.
package jumps

import (
	"slices"

	"warrant/api"
	"warrant/code"
)

// Nowhere stands where a jump would lead to an instruction and does not.
const Nowhere = -1

// Is tells whether an operation jumps: OpJa, or with a condition.
func Is(op int) bool { return api.OpJa <= op && op <= api.OpJset }

// Distance is how many units further a jump goes.
func Distance(i api.Ins) int {
	if i.Op == api.OpJa && i.Narrow {
		return i.Imm
	}
	return i.Off
}

// Led is a jump that goes so many units further.
func Led(i api.Ins, distance int) api.Ins {
	if i.Op == api.OpJa && i.Narrow {
		i.Imm = distance
	} else {
		i.Off = distance
	}
	return i
}

// Goals are, of each instruction, the number of the one that it leads to by a jump; Nowhere, if there is none.
func Goals(l []api.Ins) []int {
	begins := code.Units(l)
	to := make([]int, len(l))
	for n, i := range l {
		to[n] = Nowhere
		if !Is(i.Op) {
			continue
		}
		if goal, is := slices.BinarySearch(begins[:len(l)], begins[n+1]+Distance(i)); is {
			to[n] = goal
		}
	}
	return to
}
