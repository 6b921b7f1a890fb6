package code

import "warrant/api"

// part is a set of what an instruction's row names.
type part int

const (
	hasNarrow part = 1 << iota
	hasReg         // and with it a second operand
	hasDst
	hasSrc
	hasOff
	hasImm
)

const (
	lastReg = api.Regs - 1 // never written
	mostOff = 1<<15 - 1
	mostImm = 1<<31 - 1
)

// row is what an operation's row names, whatever the instruction's other fields are.
func row(op int) part {
	switch op {
	case api.OpNeg:
		return hasNarrow | hasDst
	case api.OpLe, api.OpBe, api.OpBswap:
		return hasDst
	case api.OpWide, api.OpData:
		return hasDst | hasImm
	case api.OpLoad, api.OpLoads:
		return hasDst | hasSrc | hasOff
	case api.OpStore:
		return hasReg | hasDst | hasOff
	case api.OpAtom:
		return hasDst | hasSrc | hasOff | hasImm
	case api.OpJa:
		return hasNarrow
	case api.OpCall:
		return hasImm
	case api.OpExit:
		return 0
	}
	if op >= api.OpJeq {
		return hasNarrow | hasReg | hasDst | hasOff
	}
	return hasNarrow | hasReg | hasDst
}

// named is what an instruction's row names of this instruction.
func named(i api.Ins) part {
	p := row(i.Op)
	switch {
	case i.Op == api.OpJa && i.Narrow:
		return p | hasImm
	case i.Op == api.OpJa:
		return p | hasOff
	case p&hasReg == 0:
		return p
	case i.Reg:
		return p | hasSrc
	}
	return p | hasImm
}

// wrong is an instruction's error.
func wrong(i api.Ins) api.Errno {
	switch {
	case !operates(i):
		return api.ErrOp
	case !registers(i):
		return api.ErrReg
	case !fields(i):
		return api.ErrField
	case !immediate(i):
		return api.ErrImm
	}
	return api.OK
}

// operates tells whether there is such an operation, of that Size, Narrow and Reg.
func operates(i api.Ins) bool {
	if i.Op < api.OpAdd || i.Op > api.OpExit || i.Op == api.OpMovs && !i.Reg {
		return false
	}
	p := row(i.Op)
	return (p&hasNarrow != 0 || !i.Narrow) && (p&hasReg != 0 || !i.Reg) && sized(i)
}

func sized(i api.Ins) bool {
	switch i.Op {
	case api.OpMovs:
		return i.Size == 8 || i.Size == 16 || i.Size == 32 && !i.Narrow
	case api.OpLe, api.OpBe, api.OpBswap:
		return i.Size == 16 || i.Size == 32 || i.Size == 64
	case api.OpLoad, api.OpStore:
		return i.Size == 1 || i.Size == 2 || i.Size == 4 || i.Size == 8
	case api.OpLoads:
		return i.Size == 1 || i.Size == 2 || i.Size == 4
	case api.OpAtom:
		return i.Size == 4 || i.Size == 8
	}
	return i.Size == 0
}

// registers tells whether those that are named are registers, and may be written where they are.
func registers(i api.Ins) bool {
	p := named(i)
	dst := p&hasDst == 0 || register(i.Dst, api.OpAdd <= i.Op && i.Op <= api.OpLoads)
	src := p&hasSrc == 0 || register(i.Src, i.Op == api.OpAtom && fetches(i.Imm))
	return dst && src
}

func register(r int, written bool) bool {
	return 0 <= r && (r < lastReg || r == lastReg && !written)
}

// fetches tells whether an atomic operation writes its Src.
func fetches(imm int) bool {
	switch imm {
	case api.AtomAdd | api.AtomFetch, api.AtomOr | api.AtomFetch, api.AtomAnd | api.AtomFetch, api.AtomXor | api.AtomFetch, api.AtomXchg:
		return true
	}
	return false
}

// fields tells whether Off fits, and Dst, Src and Off are 0 where they aren't named.
func fields(i api.Ins) bool {
	p := named(i)
	return (p&hasDst != 0 || i.Dst == 0) && (p&hasSrc != 0 || i.Src == 0) && (p&hasOff != 0 || i.Off == 0) && fits(i.Off, mostOff)
}

// fits tells whether v is one of the numbers of a field with a sign.
func fits(v, most int) bool { return -most-1 <= v && v <= most }

// immediate tells whether Imm is as its row says.
func immediate(i api.Ins) bool {
	if named(i)&hasImm == 0 {
		return i.Imm == 0
	}
	switch i.Op {
	case api.OpWide:
		return true
	case api.OpData:
		return 0 <= i.Imm && i.Imm <= mostImm
	case api.OpAtom:
		return atom(i.Imm)
	case api.OpDiv, api.OpMod, api.OpSdiv, api.OpSmod:
		return i.Imm != 0 && fits(i.Imm, mostImm)
	case api.OpLsh, api.OpRsh, api.OpArsh:
		return 0 <= i.Imm && (i.Imm <= 31 || i.Imm <= 63 && !i.Narrow)
	}
	return fits(i.Imm, mostImm)
}

// atom tells whether imm is one of the ten numbers of OpAtom.
func atom(imm int) bool {
	switch imm {
	case api.AtomAdd, api.AtomOr, api.AtomAnd, api.AtomXor, api.AtomCmpx:
		return true
	}
	return fetches(imm)
}
