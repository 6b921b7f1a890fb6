package asm_test

import (
	"strconv"
	"strings"

	"warrant/api"
)

// spelling is P3.2 of an instruction that is right: its head is looked for among all that the table tells, and its numbers are put in.
func spelling(i api.Ins) string {
	text, is := templates[head(i)]
	if !is {
		return "no spelling of this"
	}
	m, off, imm := "", strconv.Itoa(i.Off), strconv.Itoa(i.Imm)
	switch {
	case i.Off > 0:
		m = " + " + off
	case i.Off < 0:
		m = " - " + off[1:]
	}
	if i.Off >= 0 {
		off = "+" + off
	}
	if i.Op == api.OpJa && i.Narrow && i.Imm >= 0 {
		imm = "+" + imm
	}
	return strings.NewReplacer("D", strconv.Itoa(i.Dst), "S", strconv.Itoa(i.Src), "M", m, "T", off, "N", imm).Replace(text)
}

// head is what the form hangs on.
func head(i api.Ins) api.Ins {
	h := api.Ins{Op: i.Op, Narrow: i.Narrow, Reg: i.Reg, Size: i.Size}
	if i.Op == api.OpAtom {
		h.Imm = i.Imm
	}
	return h
}

var templates = func() map[api.Ins]string {
	m := map[api.Ins]string{
		{Op: api.OpNeg}:                                     "rD = -rD",
		{Op: api.OpNeg, Narrow: true}:                       "wD = -wD",
		{Op: api.OpMovs, Reg: true, Size: 8}:                "rD = s8 rS",
		{Op: api.OpMovs, Reg: true, Size: 16}:               "rD = s16 rS",
		{Op: api.OpMovs, Reg: true, Size: 32}:               "rD = s32 rS",
		{Op: api.OpMovs, Reg: true, Narrow: true, Size: 8}:  "wD = s8 wS",
		{Op: api.OpMovs, Reg: true, Narrow: true, Size: 16}: "wD = s16 wS",
		{Op: api.OpWide}:                                    "rD = wide N",
		{Op: api.OpData}:                                    "rD = data N",
		{Op: api.OpJa}:                                      "goto T",
		{Op: api.OpJa, Narrow: true}:                        "goto far N",
		{Op: api.OpCall}:                                    "call N",
		{Op: api.OpExit}:                                    "exit",
		{Op: api.OpLoads, Size: 1}:                          "rD = s8 [rSM]",
		{Op: api.OpLoads, Size: 2}:                          "rD = s16 [rSM]",
		{Op: api.OpLoads, Size: 4}:                          "rD = s32 [rSM]",
	}
	for _, o := range joinings() {
		m[api.Ins{Op: o.op}] = "rD " + o.sign + " N"
		m[api.Ins{Op: o.op, Reg: true}] = "rD " + o.sign + " rS"
		m[api.Ins{Op: o.op, Narrow: true}] = "wD " + o.sign + " N"
		m[api.Ins{Op: o.op, Narrow: true, Reg: true}] = "wD " + o.sign + " wS"
	}
	for _, o := range conditions() {
		m[api.Ins{Op: o.op}] = "if rD " + o.sign + " N goto T"
		m[api.Ins{Op: o.op, Reg: true}] = "if rD " + o.sign + " rS goto T"
		m[api.Ins{Op: o.op, Narrow: true}] = "if wD " + o.sign + " N goto T"
		m[api.Ins{Op: o.op, Narrow: true, Reg: true}] = "if wD " + o.sign + " wS goto T"
	}
	for size, u := range map[int]string{1: "u8", 2: "u16", 4: "u32", 8: "u64"} {
		m[api.Ins{Op: api.OpLoad, Size: size}] = "rD = " + u + " [rSM]"
		m[api.Ins{Op: api.OpStore, Size: size}] = u + " [rDM] = N"
		m[api.Ins{Op: api.OpStore, Size: size, Reg: true}] = u + " [rDM] = rS"
	}
	for size, u := range map[int]string{4: "u32", 8: "u64"} {
		lock := "lock " + u + " [rDM] "
		for imm, sign := range map[int]string{0x00: "+=", 0x40: "|=", 0x50: "&=", 0xa0: "^="} {
			m[api.Ins{Op: api.OpAtom, Size: size, Imm: imm}] = lock + sign + " rS"
			m[api.Ins{Op: api.OpAtom, Size: size, Imm: imm + 1}] = "rS = " + lock + sign + " rS"
		}
		m[api.Ins{Op: api.OpAtom, Size: size, Imm: 0xe1}] = "rS = " + lock + "= rS"
		m[api.Ins{Op: api.OpAtom, Size: size, Imm: 0xf1}] = lock + "= rS if r0"
	}
	for size, bits := range map[int]string{16: "16", 32: "32", 64: "64"} {
		m[api.Ins{Op: api.OpLe, Size: size}] = "rD = le" + bits + " rD"
		m[api.Ins{Op: api.OpBe, Size: size}] = "rD = be" + bits + " rD"
		m[api.Ins{Op: api.OpBswap, Size: size}] = "rD = swap" + bits + " rD"
	}
	return m
}()
