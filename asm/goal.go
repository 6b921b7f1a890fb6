package asm

import (
	"slices"
	"strconv"

	"warrant/api"
	"warrant/code"
)

// nowhere stands where a jump would lead to an instruction and does not.
const nowhere = -1

func jumps(op int) bool { return api.OpJa <= op && op <= api.OpJset }

// distance is how many units further a jump goes.
func distance(i api.Ins) int {
	if i.Op == api.OpJa && i.Narrow {
		return i.Imm
	}
	return i.Off
}

// led is a jump that goes so many units further.
func led(i api.Ins, distance int) api.Ins {
	if i.Op == api.OpJa && i.Narrow {
		i.Imm = distance
	} else {
		i.Off = distance
	}
	return i
}

// goals are, of each instruction, the number of the one that it leads to by a jump; nowhere, if there is none.
func goals(l []api.Ins) []int {
	begins := code.Units(l)
	to := make([]int, len(l))
	for n, i := range l {
		to[n] = nowhere
		if !jumps(i.Op) {
			continue
		}
		if goal, is := slices.BinarySearch(begins[:len(l)], begins[n+1]+distance(i)); is {
			to[n] = goal
		}
	}
	return to
}

// labels are the names of the instructions that jumps lead to, numbered as these stand; "" of all others.
func labels(goals []int) []string {
	is := make([]bool, len(goals))
	for _, to := range goals {
		if to != nowhere {
			is[to] = true
		}
	}
	names := make([]string, len(goals))
	next := 0
	for n := range names {
		if is[n] {
			names[n] = "L" + strconv.Itoa(next)
			next++
		}
	}
	return names
}
