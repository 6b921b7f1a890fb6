package code

import "warrant/api"

const unitSize = 8

// unit is the fields of eight bytes.
type unit struct{ opcode, dst, src, off, imm int }

// What fields are where they choose the operation.
const (
	offSigned = 1 // OpSdiv, OpSmod
	srcData   = 6 // OpData
)

// parse is the unit of eight bytes.
func parse(b []byte) unit {
	return unit{
		opcode: int(b[0]),
		dst:    int(b[1] & 15),
		src:    int(b[1] >> 4),
		off:    int(int16(b[2]) | int16(b[3])<<8),
		imm:    int(int32(b[4]) | int32(b[5])<<8 | int32(b[6])<<16 | int32(b[7])<<24),
	}
}

func (u unit) appendTo(b []byte) []byte {
	return append(b,
		byte(u.opcode), byte(u.dst|u.src<<4), byte(u.off), byte(u.off>>8),
		byte(u.imm), byte(u.imm>>8), byte(u.imm>>16), byte(u.imm>>24))
}

// long tells whether an instruction takes two units.
func long(op int) bool { return op == api.OpWide || op == api.OpData }

// first is an instruction's unit, or the first one of two. What it does not name is 0 in it already.
func first(i api.Ins) unit {
	u := unit{opcode: opcode(i), dst: i.Dst, src: i.Src, off: i.Off, imm: i.Imm}
	switch i.Op {
	case api.OpSdiv, api.OpSmod:
		u.off = offSigned
	case api.OpMovs:
		u.off = i.Size
	case api.OpLe, api.OpBe, api.OpBswap:
		u.imm = i.Size
	case api.OpWide:
		u.imm = int(int32(i.Imm))
	case api.OpData:
		u.src, u.imm = srcData, 0
	}
	return u
}

// second is the unit behind the first one of OpWide and OpData.
func second(i api.Ins) unit {
	if i.Op == api.OpWide {
		return unit{imm: i.Imm >> 32}
	}
	return unit{imm: i.Imm}
}
