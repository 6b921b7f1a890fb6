package asm

import (
	"strconv"
	"strings"

	"warrant/api"
	"warrant/jumps"
)

// spelled is an instruction that is right; a jump goes to goal.
func spelled(i api.Ins, goal string) string {
	dst, src := register(i.Narrow, i.Dst), register(i.Narrow, i.Src)
	imm := strconv.Itoa(i.Imm)
	switch i.Op {
	case api.OpNeg:
		return words(dst, "=", "-"+dst)
	case api.OpMovs:
		return words(dst, "=", numbered("s", i.Size), src)
	case api.OpLe, api.OpBe, api.OpBswap:
		return words(dst, "=", numbered(turned(i.Op), i.Size), dst)
	case api.OpWide:
		return words(dst, "=", "wide", imm)
	case api.OpData:
		return words(dst, "=", "data", imm)
	case api.OpLoad:
		return words(dst, "=", numbered("u", 8*i.Size), place(i.Src, i.Off))
	case api.OpLoads:
		return words(dst, "=", numbered("s", 8*i.Size), place(i.Src, i.Off))
	case api.OpStore:
		return words(numbered("u", 8*i.Size), place(i.Dst, i.Off), "=", second(i))
	case api.OpAtom:
		return atomic(i)
	case api.OpJa:
		if i.Narrow {
			return words("goto", "far", goal)
		}
		return words("goto", goal)
	case api.OpCall:
		return words("call", imm)
	case api.OpExit:
		return "exit"
	}
	if jumps.Is(i.Op) {
		return words("if", dst, signs[i.Op], second(i), "goto", goal)
	}
	return words(dst, signs[i.Op], second(i))
}

func atomic(i api.Ins) string {
	src := register(false, i.Src)
	locked := words("lock", numbered("u", 8*i.Size), place(i.Dst, i.Off))
	switch i.Imm {
	case api.AtomXchg:
		return words(src, "=", locked, "=", src)
	case api.AtomCmpx:
		return words(locked, "=", src, "if r0")
	}
	if i.Imm&api.AtomFetch != 0 {
		locked = words(src, "=", locked)
	}
	return words(locked, joined(i.Imm&^api.AtomFetch), src)
}

// words are put one behind the other, with a blank between.
func words(l ...string) string { return strings.Join(l, " ") }

func numbered(name string, n int) string { return name + strconv.Itoa(n) }

// bank is the letter of the registers.
func bank(narrow bool) string {
	if narrow {
		return "w"
	}
	return "r"
}

func register(narrow bool, n int) string { return numbered(bank(narrow), n) }

func second(i api.Ins) string {
	if i.Reg {
		return register(i.Narrow, i.Src)
	}
	return strconv.Itoa(i.Imm)
}

// place is a register in brackets, and what is added to it.
func place(reg, off int) string {
	inner := register(false, reg)
	switch {
	case off > 0:
		inner = words(inner, "+", strconv.Itoa(off))
	case off < 0:
		inner = words(inner, "-", strconv.Itoa(-off))
	}
	return "[" + inner + "]"
}

// signed is a distance, a plus with it too.
func signed(distance int) string {
	if distance < 0 {
		return strconv.Itoa(distance)
	}
	return "+" + strconv.Itoa(distance)
}

// turned is the name of an operation on the order of bytes.
func turned(op int) string {
	for _, t := range turnings {
		if t.op == op {
			return t.name
		}
	}
	return ""
}

// joined is the sign of what an atomic operation does.
func joined(imm int) string {
	for _, a := range atoms {
		if a.imm == imm {
			return a.sign
		}
	}
	return ""
}
