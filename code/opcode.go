package code

import "warrant/api"

// An opcode's low three bits are its class.
const (
	classWide       = iota // OpWide, OpData
	classLoad              // OpLoad, OpLoads
	classStoreImm          // OpStore, not Reg
	classStore             // OpStore, Reg; OpAtom
	classNarrow            // arithmetic, Narrow
	classJump              // jumps, OpCall, OpExit
	classNarrowJump        // jumps, Narrow
	classFull              // arithmetic
)

// In the classes of arithmetic and of jumps the bit above is Reg, and the high four bits are a digit.
const (
	classBits = 7
	regBit    = 8
	digitAt   = 4
)

// The digits of arithmetic.
const (
	digitAdd = iota
	digitSub
	digitMul
	digitDiv
	digitOr
	digitAnd
	digitLsh
	digitRsh
	digitNeg
	digitMod
	digitXor
	digitMov
	digitArsh
	digitSwap
)

// The digits of jumps.
const (
	digitJa = iota
	digitJeq
	digitJgt
	digitJge
	digitJset
	digitJne
	digitJsgt
	digitJsge
	digitCall
	digitExit
	digitJlt
	digitJle
	digitJslt
	digitJsle
)

// In the other classes the two bits above are a size, and the high three bits are a mode.
const (
	sizeAt   = 3
	sizeBits = 3 << sizeAt
	modeAt   = 5
)

const (
	sizeFour = iota
	sizeTwo
	sizeOne
	sizeEight
)

const (
	modeWide = iota
	_
	_
	modePlain
	modeSigned
	_
	modeAtom
)

// Opcodes that no digit of an operation tells.
const (
	opcodeWide  = modeWide<<modeAt | sizeEight<<sizeAt | classWide
	opcodeLe    = digitSwap<<digitAt | classNarrow
	opcodeBe    = digitSwap<<digitAt | regBit | classNarrow
	opcodeBswap = digitSwap<<digitAt | classFull
)

// Opcodes less their size.
const (
	opcodeLoad     = modePlain<<modeAt | classLoad
	opcodeLoads    = modeSigned<<modeAt | classLoad
	opcodeStoreImm = modePlain<<modeAt | classStoreImm
	opcodeStore    = modePlain<<modeAt | classStore
	opcodeAtom     = modeAtom<<modeAt | classStore
)

var sizes = [...]int{sizeFour: 4, sizeTwo: 2, sizeOne: 1, sizeEight: 8}

// joinings are the operations of the digits of arithmetic; of those that share a digit the first.
var joinings = [...]int{
	digitAdd:  api.OpAdd,
	digitSub:  api.OpSub,
	digitMul:  api.OpMul,
	digitDiv:  api.OpDiv,
	digitOr:   api.OpOr,
	digitAnd:  api.OpAnd,
	digitLsh:  api.OpLsh,
	digitRsh:  api.OpRsh,
	digitNeg:  api.OpNeg,
	digitMod:  api.OpMod,
	digitXor:  api.OpXor,
	digitMov:  api.OpMov,
	digitArsh: api.OpArsh,
}

var jumps = [...]int{
	digitJa:   api.OpJa,
	digitJeq:  api.OpJeq,
	digitJgt:  api.OpJgt,
	digitJge:  api.OpJge,
	digitJset: api.OpJset,
	digitJne:  api.OpJne,
	digitJsgt: api.OpJsgt,
	digitJsge: api.OpJsge,
	digitCall: api.OpCall,
	digitExit: api.OpExit,
	digitJlt:  api.OpJlt,
	digitJle:  api.OpJle,
	digitJslt: api.OpJslt,
	digitJsle: api.OpJsle,
}

// opcode is that of an instruction whose operation is right.
func opcode(i api.Ins) int {
	switch i.Op {
	case api.OpWide, api.OpData:
		return opcodeWide
	case api.OpLe:
		return opcodeLe
	case api.OpBe:
		return opcodeBe
	case api.OpBswap:
		return opcodeBswap
	case api.OpLoad, api.OpLoads, api.OpStore, api.OpAtom:
		return access(i) | sizeDigit(i.Size)<<sizeAt
	}
	c := digit(i.Op)<<digitAt | class(i)
	if i.Reg {
		c |= regBit
	}
	return c
}

// access is the opcode, less its size, of what touches memory.
func access(i api.Ins) int {
	switch {
	case i.Op == api.OpLoad:
		return opcodeLoad
	case i.Op == api.OpLoads:
		return opcodeLoads
	case i.Op == api.OpAtom:
		return opcodeAtom
	case i.Reg:
		return opcodeStore
	}
	return opcodeStoreImm
}

func sizeDigit(size int) int {
	for d, s := range sizes {
		if s == size {
			return d
		}
	}
	return 0
}

// class is that of arithmetic and of jumps.
func class(i api.Ins) int {
	jump := i.Op >= api.OpJa
	switch {
	case jump && i.Narrow:
		return classNarrowJump
	case jump:
		return classJump
	case i.Narrow:
		return classNarrow
	}
	return classFull
}

// digit is that of arithmetic and of jumps.
func digit(op int) int {
	switch op {
	case api.OpSdiv:
		return digitDiv
	case api.OpSmod:
		return digitMod
	case api.OpMovs:
		return digitMov
	}
	for d, o := range joinings {
		if o == op {
			return d
		}
	}
	for d, o := range jumps {
		if o == op {
			return d
		}
	}
	return 0
}

// operation is what an opcode alone tells of its instruction: nothing (Op 0), if it is none's; of those that share it the first.
func operation(c int) api.Ins {
	switch c {
	case opcodeWide:
		return api.Ins{Op: api.OpWide}
	case opcodeLe:
		return api.Ins{Op: api.OpLe}
	case opcodeBe:
		return api.Ins{Op: api.OpBe}
	case opcodeBswap:
		return api.Ins{Op: api.OpBswap}
	}
	i := told(c)
	if !operates(i) {
		return api.Ins{}
	}
	return i
}

// told is what an opcode's parts tell, whether or not they go together.
func told(c int) api.Ins {
	reg, d := c&regBit != 0, c>>digitAt
	switch k := c & classBits; k {
	case classNarrow, classFull:
		if d < len(joinings) {
			return api.Ins{Op: joinings[d], Narrow: k == classNarrow, Reg: reg}
		}
	case classJump, classNarrowJump:
		if d < len(jumps) {
			return api.Ins{Op: jumps[d], Narrow: k == classNarrowJump, Reg: reg}
		}
	default:
		return touching(c)
	}
	return api.Ins{}
}

// touching is told, of what touches memory.
func touching(c int) api.Ins {
	i := api.Ins{Size: sizes[c&sizeBits>>sizeAt]}
	switch c &^ sizeBits {
	case opcodeLoad:
		i.Op = api.OpLoad
	case opcodeLoads:
		i.Op = api.OpLoads
	case opcodeStoreImm:
		i.Op = api.OpStore
	case opcodeStore:
		i.Op, i.Reg = api.OpStore, true
	case opcodeAtom:
		i.Op = api.OpAtom
	}
	return i
}
