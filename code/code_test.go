package code_test

import (
	"bytes"
	"math"
	"math/rand"
	"slices"
	"sync"
	"testing"

	"warrant/api"
	"warrant/code"
)

func wantDecode(t *testing.T, b []byte, want []api.Ins, at int, e api.Errno) {
	t.Helper()
	l, n, f := code.Decode(b)
	if !slices.Equal(l, want) || n != at || f != e {
		t.Errorf("Decode(%s) = %s, %d, %v; want %s, %d, %v", short(b), few(l), n, f, few(want), at, e)
	}
}

func wantEncode(t *testing.T, l []api.Ins, want []byte, at int, e api.Errno) {
	t.Helper()
	b, n, f := code.Encode(l)
	if !bytes.Equal(b, want) || n != at || f != e {
		t.Errorf("Encode(%s) = %s, %d, %v; want %s, %d, %v", few(l), short(b), n, f, short(want), at, e)
	}
	wantCheck(t, l, at, e)
}

func wantCheck(t *testing.T, l []api.Ins, at int, e api.Errno) {
	t.Helper()
	if n, f := code.Check(l); n != at || f != e {
		t.Errorf("Check(%s) = %d, %v; want %d, %v", few(l), n, f, at, e)
	}
}

func wantUnits(t *testing.T, l []api.Ins, want []int) {
	t.Helper()
	if u := code.Units(l); !slices.Equal(u, want) {
		t.Errorf("Units(%s) = %v; want %v", few(l), u, want)
	}
}

// wantBoth: the bytes are read as the list, and the list is written as the bytes.
func wantBoth(t *testing.T, b []byte, l []api.Ins) {
	t.Helper()
	wantDecode(t, b, l, 0, api.OK)
	wantEncode(t, l, b, 0, api.OK)
}

// TestExamples: every row of the chapter's section Examples, both ways where it is read.
func TestExamples(t *testing.T) {
	for _, c := range []struct {
		bytes string
		l     []api.Ins
	}{
		{"b7 01 00 00 05 00 00 00", []api.Ins{{Op: api.OpMov, Dst: 1, Imm: 5}}},
		{"0f 21 00 00 00 00 00 00", []api.Ins{{Op: api.OpAdd, Reg: true, Dst: 1, Src: 2}}},
		{"34 03 01 00 ff ff ff ff", []api.Ins{{Op: api.OpSdiv, Narrow: true, Dst: 3, Imm: -1}}},
		{"bf 12 20 00 00 00 00 00", []api.Ins{{Op: api.OpMovs, Reg: true, Size: 32, Dst: 2, Src: 1}}},
		{"18 04 00 00 ff ff ff ff, 00 00 00 00 01 00 00 00", []api.Ins{{Op: api.OpWide, Dst: 4, Imm: 8589934591}}},
		{"18 64 00 00 00 00 00 00, 00 00 00 00 07 00 00 00", []api.Ins{{Op: api.OpData, Dst: 4, Imm: 7}}},
		{"79 a6 f8 ff 00 00 00 00", []api.Ins{{Op: api.OpLoad, Size: 8, Dst: 6, Src: 10, Off: -8}}},
		{"7a 0a f0 ff 2a 00 00 00", []api.Ins{{Op: api.OpStore, Size: 8, Dst: 10, Off: -16, Imm: 42}}},
		{"db a1 00 00 00 00 00 00", []api.Ins{{Op: api.OpAtom, Size: 8, Dst: 1, Src: 10, Imm: api.AtomAdd}}},
		{"2d 21 fe ff 00 00 00 00", []api.Ins{{Op: api.OpJgt, Reg: true, Dst: 1, Src: 2, Off: -2}}},
		{"06 00 00 00 00 00 01 00", []api.Ins{{Op: api.OpJa, Narrow: true, Imm: 65536}}},
		{"85 00 00 00 01 00 00 00, 95 00 00 00 00 00 00 00", []api.Ins{{Op: api.OpCall, Imm: 1}, {Op: api.OpExit}}},
	} {
		wantBoth(t, raw(c.bytes), c.l)
	}
	for _, c := range []struct {
		bytes string
		at    int
		e     api.Errno
	}{
		{"bc 12 20 00 00 00 00 00", 0, api.ErrField},
		{"18 04 00 00 ff ff ff ff", 0, api.ErrShort},
		{"db a1 00 00 01 00 00 00", 0, api.ErrReg},
		{"95 00 00 00 00 00 00 00, ff", 1, api.ErrShort},
		{"37 01 00 00 00 00 00 00", 0, api.ErrImm},
		{"b7 0a 00 00 00 00 00 00", 0, api.ErrReg},
		{"b7 1b 00 00 00 00 00 00", 0, api.ErrReg},
	} {
		wantDecode(t, raw(c.bytes), nil, c.at, c.e)
	}
	wantUnits(t, []api.Ins{{Op: api.OpMov}, {Op: api.OpWide}, {Op: api.OpExit}}, []int{0, 1, 3, 4})
	wantUnits(t, nil, []int{0})
}

// registers are the least and the greatest of a field Dst or Src.
func registers(named, written bool) []int {
	switch {
	case !named:
		return []int{0}
	case written:
		return []int{0, 9}
	}
	return []int{0, 10}
}

// right are the instructions of a row with the least and the greatest of each field that it names.
func (r row) right() []api.Ins {
	offs, immediates := []int{0}, []int{0}
	if r.named('o') {
		offs = []int{-32768, 0, 32767}
	}
	if r.named('i') {
		immediates = r.imms.edges()
	}
	var l []api.Ins
	for _, imm := range immediates {
		for _, off := range offs {
			for _, dst := range registers(r.named('d'), r.writesDst()) {
				i := r.ins
				i.Dst, i.Off, i.Imm = dst, off, imm
				for _, src := range registers(r.named('s'), writesSrc(i)) {
					i.Src = src
					l = append(l, i)
				}
			}
		}
	}
	return l
}

// TestRows (P2.1, P2.2): every row of the table of opcodes, with the least and the greatest of each field that it names, both ways.
func TestRows(t *testing.T) {
	for _, r := range rows() {
		for _, i := range r.right() {
			wantBoth(t, r.written(i), []api.Ins{i})
		}
	}
}

// TestBytes (P2.1): where in a unit each bit of a field stands.
func TestBytes(t *testing.T) {
	wantBoth(t, raw("7b 21 04 03 00 00 00 00"), []api.Ins{{Op: api.OpStore, Reg: true, Size: 8, Dst: 1, Src: 2, Off: 0x304}})
	wantBoth(t, raw("62 09 fe 80 d4 c3 b2 a1"), []api.Ins{{Op: api.OpStore, Size: 4, Dst: 9, Off: -0x7f02, Imm: -0x5e4d3c2c}})
	wantBoth(t, raw("16 0a 80 00 44 33 22 11"), []api.Ins{{Op: api.OpJeq, Narrow: true, Dst: 10, Off: 128, Imm: 0x11223344}})
	wantBoth(t, raw("18 09 00 00 88 77 66 55, 00 00 00 00 44 33 22 11"), []api.Ins{{Op: api.OpWide, Dst: 9, Imm: 0x1122334455667788}})
	wantBoth(t, raw("18 00 00 00 01 00 00 80, 00 00 00 00 fe ff ff ff"), []api.Ins{{Op: api.OpWide, Imm: -1<<33 + 1<<31 + 1}})
	wantBoth(t, raw("18 00 00 00 00 00 00 00, 00 00 00 00 00 00 00 80"), []api.Ins{{Op: api.OpWide, Imm: math.MinInt}})
	wantBoth(t, raw("18 69 00 00 00 00 00 00, 00 00 00 00 ff ff ff 7f"), []api.Ins{{Op: api.OpData, Dst: 9, Imm: 1<<31 - 1}})
}

// fault makes an instruction wrong.
type fault func(i *api.Ins)

func setDst(v int) fault { return func(i *api.Ins) { i.Dst = v } }
func setSrc(v int) fault { return func(i *api.Ins) { i.Src = v } }
func setOff(v int) fault { return func(i *api.Ins) { i.Off = v } }
func setImm(v int) fault { return func(i *api.Ins) { i.Imm = v } }
func noFault(*api.Ins)   {}

// opFaults, regFaults, fieldFaults and immFaults are what is ErrOp, ErrReg, ErrField and ErrImm of a row's instructions (P2.3).
func (r row) opFaults() []fault {
	l := []fault{}
	for _, size := range []int{math.MinInt, -8, -1, 3, 5, 24, 65, 128, 1 << 32, 1<<32 + 8} {
		l = append(l, func(i *api.Ins) { i.Size = size })
	}
	for _, op := range []int{math.MinInt, -1, 0, api.OpExit + 1, 256 + api.OpAdd, 1<<32 + api.OpExit, math.MaxInt} {
		l = append(l, func(i *api.Ins) { i.Op = op })
	}
	return l
}

func (r row) regFaults() []fault {
	var l []fault
	for _, v := range []int{math.MinInt, -1 << 32, -16, -1, 11, 15, 16, 256, 1 << 32, math.MaxInt} {
		if r.named('d') {
			l = append(l, setDst(v))
		}
		if r.named('s') {
			l = append(l, setSrc(v))
		}
	}
	if r.writesDst() {
		l = append(l, setDst(10))
	}
	return l
}

func (r row) fieldFaults() []fault {
	var l []fault
	for _, v := range []int{math.MinInt, -1, 1, 9, 10, 11, 1 << 32, math.MaxInt} {
		if !r.named('d') {
			l = append(l, setDst(v))
		}
		if !r.named('s') {
			l = append(l, setSrc(v))
		}
		if !r.named('o') {
			l = append(l, setOff(v))
		}
	}
	for _, v := range []int{math.MinInt, -32769, 32768, 1 << 16, 1 << 32, math.MaxInt} {
		l = append(l, setOff(v))
	}
	return l
}

func (r row) immFaults() []fault {
	var l []fault
	m := imms{}
	if r.named('i') {
		m = r.imms
	}
	for _, v := range []int{math.MinInt, -1<<32 + 1, -1<<31 - 1, -1 << 31, -1, 0, 1, 2, 31, 32, 33, 63, 64, 65, 0x3f, 0x42, 0x60, 0xb0, 0xe0, 0xf0, 0xf2, 1<<31 - 1, 1 << 31, 1 << 32, 1<<32 + 1, math.MaxInt} {
		if !m.has(v) {
			l = append(l, setImm(v))
		}
	}
	return l
}

// fine is an instruction of the row in the middle of what it may be.
func (r row) fine() api.Ins {
	i := r.ins
	if r.named('d') {
		i.Dst = 3
	}
	if r.named('s') {
		i.Src = 4
	}
	if r.named('o') {
		i.Off = -5
	}
	if r.named('i') {
		i.Imm = 1
	}
	return i
}

// TestWrong (P2.3): of every row every error, alone and with each of those later in the list: the first is the error.
func TestWrong(t *testing.T) {
	for _, r := range rows() {
		wantCheck(t, []api.Ins{r.fine()}, 0, api.OK)
		classes := []struct {
			e api.Errno
			l []fault
		}{{api.ErrOp, r.opFaults()}, {api.ErrReg, r.regFaults()}, {api.ErrField, r.fieldFaults()}, {api.ErrImm, r.immFaults()}}
		for n, c := range classes {
			later := []fault{noFault}
			for _, d := range classes[n+1:] {
				later = append(later, d.l...)
			}
			for _, f := range c.l {
				for _, g := range later {
					i := r.fine()
					g(&i)
					f(&i)
					wantEncode(t, []api.Ins{i}, nil, 0, c.e)
				}
			}
		}
	}
}

// TestWrongFlags (P2.3): Narrow, Reg and Size where they are not named, or not so; ahead of all other errors.
func TestWrongFlags(t *testing.T) {
	k := newBook()
	for op := range 50 {
		for size := range 70 {
			for _, narrow := range []bool{false, true} {
				for _, reg := range []bool{false, true} {
					i := api.Ins{Op: op, Narrow: narrow, Reg: reg, Size: size}
					if _, is := k.byHead[i]; !is {
						wantCheck(t, []api.Ins{i}, 0, api.ErrOp)
						i.Dst, i.Src, i.Off, i.Imm = 11, -1, 1<<15, 1<<32
						wantCheck(t, []api.Ins{i}, 0, api.ErrOp)
					}
				}
			}
		}
	}
	wantCheck(t, []api.Ins{{Op: api.OpMovs, Size: 8}}, 0, api.ErrOp)
	wantCheck(t, []api.Ins{{Op: api.OpMovs, Narrow: true, Reg: true, Size: 32}}, 0, api.ErrOp)
	wantCheck(t, []api.Ins{{Op: api.OpNeg, Reg: true}}, 0, api.ErrOp)
	wantCheck(t, []api.Ins{{Op: api.OpAtom, Reg: true, Size: 8}}, 0, api.ErrOp)
	wantCheck(t, []api.Ins{{Op: api.OpLoads, Size: 8}}, 0, api.ErrOp)
	wantCheck(t, []api.Ins{{Op: api.OpExit, Narrow: true}}, 0, api.ErrOp)
}

// TestLastRegister (P2.3, P2.4): r10 is read and is no place to write to; of OpAtom Imm tells which it is.
func TestLastRegister(t *testing.T) {
	for _, r := range rows() {
		i := r.fine()
		if r.named('d') {
			i.Dst = 10
			if r.writesDst() {
				wantEncode(t, []api.Ins{i}, nil, 0, api.ErrReg)
				wantDecode(t, r.written(i), nil, 0, api.ErrReg)
			} else {
				wantBoth(t, r.written(i), []api.Ins{i})
			}
		}
	}
	for _, size := range []int{4, 8} {
		for imm := -2; imm < 300; imm++ {
			i := api.Ins{Op: api.OpAtom, Size: size, Dst: 10, Src: 10, Imm: imm}
			e := api.OK
			if writesSrc(i) {
				e = api.ErrReg
			} else if !atoms.has(imm) {
				e = api.ErrImm
			}
			wantCheck(t, []api.Ins{i}, 0, e)
			opcode := byte(0xc3)
			if size == 8 {
				opcode = 0xdb
			}
			b := unit(opcode, 10, 10, 0, imm)
			if e == api.OK {
				wantBoth(t, b, []api.Ins{i})
			} else {
				wantDecode(t, b, nil, 0, e)
			}
		}
	}
}

// refusal is the error of some bytes.
type refusal struct {
	bytes string
	e     api.Errno
}

func wantRefused(t *testing.T, l []refusal) {
	t.Helper()
	for _, c := range l {
		b := raw(c.bytes)
		wantDecode(t, b, nil, 0, c.e)
		wantDecode(t, slices.Concat(raw("95 00 00 00 00 00 00 00"), b), nil, 1, c.e)
	}
}

// TestRefusedOpcode (P2.4): bytes that end too early, opcodes that are none, and the opcode of two units; alone and with later errors of the list.
func TestRefusedOpcode(t *testing.T) {
	wantRefused(t, []refusal{
		{"b7", api.ErrShort},
		{"b7 01 00 00 05 00 00", api.ErrShort},
		{"00", api.ErrShort},                      // and ErrOp
		{"ff ff ff ff ff ff ff", api.ErrShort},    // and all others
		{"00 00 00 00 00 00 00 00", api.ErrOp},    // alone
		{"8f 00 00 00 00 00 00 00", api.ErrOp},    // OpNeg with Reg
		{"8c 00 00 00 00 00 00 00", api.ErrOp},    // narrow
		{"df 00 00 00 10 00 00 00", api.ErrOp},    // a swap with Reg
		{"99 00 00 00 00 00 00 00", api.ErrOp},    // OpLoads of 8 bytes
		{"d3 00 00 00 00 00 00 00", api.ErrOp},    // OpAtom of 1 byte
		{"cb 00 00 00 00 00 00 00", api.ErrOp},    // of 2
		{"0d 00 00 00 00 00 00 00", api.ErrOp},    // OpJa with Reg
		{"86 00 00 00 00 00 00 00", api.ErrOp},    // OpCall, Narrow
		{"8d 00 00 00 00 00 00 00", api.ErrOp},    // with Reg
		{"96 00 00 00 00 00 00 00", api.ErrOp},    // OpExit, Narrow
		{"e5 00 00 00 00 00 00 00", api.ErrOp},    // a digit of no jump
		{"e7 00 00 00 00 00 00 00", api.ErrOp},    // of no arithmetic
		{"10 ff ff ff ff ff ff ff", api.ErrOp},    // and all later ones
		{"18 0b 01 00 00 00 00 00", api.ErrShort}, // and ErrReg, ErrField
		{"18 04 00 00 ff ff ff ff, 00 00 00 00 01 00 00", api.ErrShort},
		{"18 0a 00 00 00 00 00 00, 00 00 00 00 00 00 00 00", api.ErrReg},
		{"18 7b 01 00 01 00 00 00, 01 00 00 00 ff ff ff ff", api.ErrReg},   // and all later ones
		{"18 b4 00 00 00 00 00 00, 00 00 00 00 00 00 00 00", api.ErrField}, // src is no register there
		{"18 14 00 00 00 00 00 00, 00 00 00 00 00 00 00 00", api.ErrField}, // src neither 0 nor 6
		{"18 04 01 00 00 00 00 00, 00 00 00 00 00 00 00 00", api.ErrField}, // off
		{"18 04 00 00 00 00 00 00, 18 00 00 00 00 00 00 00", api.ErrField}, // the second unit
		{"18 04 00 00 00 00 00 00, 00 01 00 00 00 00 00 00", api.ErrField}, // its byte 1
		{"18 04 00 00 00 00 00 00, 00 10 00 00 00 00 00 00", api.ErrField}, // its high bits
		{"18 04 00 00 00 00 00 00, 00 00 01 00 00 00 00 00", api.ErrField}, // its byte 2
		{"18 04 00 00 00 00 00 00, 00 00 00 80 00 00 00 00", api.ErrField}, // its byte 3
		{"18 64 00 00 01 00 00 00, 00 00 00 80 ff ff ff ff", api.ErrField}, // and ErrImm
		{"18 64 00 00 01 00 00 00, 00 00 00 00 07 00 00 00", api.ErrImm},   // the first imm
		{"18 64 00 00 00 00 00 00, 00 00 00 00 00 00 00 80", api.ErrImm},   // the second below 0
	})
}

// TestRefusedField (P2.4): the fields of one unit; alone and with later errors of the list.
func TestRefusedField(t *testing.T) {
	wantRefused(t, []refusal{
		{"b7 0f 00 00 00 00 00 00", api.ErrReg},   // above 10
		{"bf b1 00 00 00 00 00 00", api.ErrReg},   // src
		{"37 0a 05 00 00 00 00 00", api.ErrReg},   // and ErrField, ErrImm
		{"3f b0 05 00 01 00 00 00", api.ErrReg},   // of src
		{"db a1 00 00 e1 00 00 00", api.ErrReg},   // AtomXchg writes src
		{"db b1 00 00 02 00 00 00", api.ErrReg},   // and ErrImm
		{"37 00 02 00 01 00 00 00", api.ErrField}, // off neither 0 nor 1
		{"97 00 ff ff 01 00 00 00", api.ErrField}, // off -1
		{"37 10 00 00 00 00 00 00", api.ErrField}, // and ErrImm
		{"07 00 01 00 00 00 00 00", api.ErrField}, // signs where there are none
		{"b7 00 08 00 00 00 00 00", api.ErrField}, // off of OpMov with Imm
		{"bf 00 40 00 00 00 00 00", api.ErrField}, // off 64
		{"bf 00 18 00 01 00 00 00", api.ErrField}, // and ErrImm
		{"95 01 00 00 00 00 00 00", api.ErrField}, // dst of OpExit
		{"95 f0 00 00 00 00 00 00", api.ErrField}, // src
		{"05 00 00 00 01 00 00 00", api.ErrImm},   // imm of OpJa
		{"06 00 01 00 00 00 00 00", api.ErrField}, // off of the narrow one
		{"85 10 00 00 01 00 00 00", api.ErrField}, // src of OpCall
		{"d4 00 00 00 00 00 00 00", api.ErrImm},   // no Size
		{"d4 00 00 00 08 00 00 00", api.ErrImm},   // 8
		{"dc 10 00 00 08 00 00 00", api.ErrField}, // and ErrImm
		{"d7 00 00 00 41 00 00 00", api.ErrImm},   // 65
		{"3f 00 00 00 01 00 00 00", api.ErrImm},   // imm beside src
		{"67 00 00 00 40 00 00 00", api.ErrImm},   // a distance of 64
		{"64 00 00 00 20 00 00 00", api.ErrImm},   // of 32, narrow
		{"67 00 00 00 ff ff ff ff", api.ErrImm},   // of -1
		{"94 00 01 00 00 00 00 00", api.ErrImm},   // OpSmod by 0
		{"79 00 00 00 01 00 00 00", api.ErrImm},   // imm of OpLoad
		{"c3 00 00 00 02 00 00 00", api.ErrImm},   // none of the ten
		{"c3 a0 00 00 e0 00 00 00", api.ErrImm},   // which writes nothing
		{"c3 00 00 00 e1 00 00 01", api.ErrImm},   // in the low byte alone
	})
}

// bits makes bytes wrong.
type bits func(b []byte)

// bitFaults are what is ErrReg, ErrField and ErrImm of a row's bytes (P2.4).
func (r row) bitFaults() (registers, fields, immediates []bits) {
	for v := byte(10); v < 16; v++ {
		if r.named('d') && (v > 10 || r.writesDst()) {
			registers = append(registers, func(b []byte) { b[1] = b[1]&0xf0 | v })
		}
		if r.named('s') && v > 10 {
			registers = append(registers, func(b []byte) { b[1] = b[1]&0x0f | v<<4 })
		}
	}
	if !r.named('d') {
		fields = append(fields, func(b []byte) { b[1] |= 1 }, func(b []byte) { b[1] |= 15 })
	}
	if !r.named('s') {
		fields = append(fields, func(b []byte) { b[1] |= 0x10 }, func(b []byte) { b[1] |= 0xf0 })
	}
	if !r.named('o') {
		fields = append(fields, func(b []byte) { b[2] = 3 }, func(b []byte) { b[3] = 1 })
	}
	if r.long() {
		for n := 8; n < 12; n++ {
			fields = append(fields, func(b []byte) { b[n] = 1 }, func(b []byte) { b[n] = 0x80 })
		}
	}
	switch {
	case r.ins.Op == api.OpData:
		immediates = append(immediates, func(b []byte) { b[4] = 1 }, func(b []byte) { b[7] = 0x80 }, func(b []byte) { b[15] |= 0x80 })
	case !r.named('i'):
		immediates = append(immediates, func(b []byte) { b[4]++ }, func(b []byte) { b[5] = 1 }, func(b []byte) { b[7] = 0x80 })
	case r.imms.list != nil || !r.imms.has(-1):
		immediates = append(immediates, func(b []byte) { b[7] = 0x80 }, func(b []byte) { b[5] = 1 })
	case !r.imms.has(0):
		immediates = append(immediates, func(b []byte) { copy(b[4:8], "\x00\x00\x00\x00") })
	}
	return registers, fields, immediates
}

// TestRefusedTogether (P2.4): of every row every error of its fields, alone and with each of those later in the list.
func TestRefusedTogether(t *testing.T) {
	nothing := func([]byte) {}
	for _, r := range rows() {
		fine := r.written(r.fine())
		wantBoth(t, fine, []api.Ins{r.fine()})
		registers, fields, immediates := r.bitFaults()
		try := func(e api.Errno, l, later []bits) {
			for _, f := range l {
				for _, g := range append([]bits{nothing}, later...) {
					b := slices.Clone(fine)
					g(b)
					f(b)
					wantDecode(t, b, nil, 0, e)
					wantDecode(t, b[:len(b)-1], nil, 0, api.ErrShort)
				}
			}
		}
		try(api.ErrReg, registers, slices.Concat(fields, immediates))
		try(api.ErrField, fields, immediates)
		try(api.ErrImm, immediates, nil)
	}
}

// TestOpcodes (P2.2, P2.4): which of the opcodes are none, ahead of all but a missing byte.
func TestOpcodes(t *testing.T) {
	k := newBook()
	none := 0
	for c := range 256 {
		if len(k.byOpcode[c]) > 0 {
			continue
		}
		none++
		for _, b := range [][]byte{unit(byte(c), 0, 0, 0, 0), unit(byte(c), 0, 0, 0, 16), unit(byte(c), 15, 15, -1, -1)} {
			wantDecode(t, b, nil, 0, api.ErrOp)
			wantDecode(t, b[:7], nil, 0, api.ErrShort)
		}
	}
	// 12 digits of four opcodes, 2 of OpNeg, 3 of turned bytes, 1 of two units, 4 + 3 loads, 8 stores, 2 atoms, 11 digits of four, 4 others.
	if want := 256 - (12*4 + 2 + 3 + 1 + 4 + 3 + 8 + 2 + 11*4 + 4); none != want {
		t.Errorf("%d opcodes are none; want %d", none, want)
	}
}

// TestPlace (P2.4, P2.5, P2.6): the place that goes with an error, behind instructions of two units: of bytes a unit, of lists a number.
func TestPlace(t *testing.T) {
	wide := api.Ins{Op: api.OpWide, Dst: 1, Imm: -1}
	data := api.Ins{Op: api.OpData, Dst: 2, Imm: 8}
	exit := api.Ins{Op: api.OpExit}
	ahead := []api.Ins{wide, exit, data, wide}
	front, _, _ := code.Encode(ahead)
	if len(front) != 56 {
		t.Fatalf("Encode(%s) = %s", few(ahead), short(front))
	}
	for _, c := range []refusal{
		{"95", api.ErrShort},
		{"18 04 00 00 ff ff ff ff, 00 00 00 00 01 00 00", api.ErrShort},
		{"00 00 00 00 00 00 00 00", api.ErrOp},
		{"b7 0a 00 00 00 00 00 00", api.ErrReg},
		{"18 04 00 00 00 00 00 00, 00 00 00 01 00 00 00 00", api.ErrField},
		{"18 64 00 00 00 00 00 00, 00 00 00 00 ff ff ff ff", api.ErrImm},
	} {
		b := slices.Concat(front, raw(c.bytes))
		wantDecode(t, b, nil, 7, c.e)
		if c.e != api.ErrShort {
			wantDecode(t, slices.Concat(b, front, []byte{1}), nil, 7, c.e)
		}
	}
	for _, c := range []struct {
		ins api.Ins
		e   api.Errno
	}{
		{api.Ins{Op: api.OpExit + 1}, api.ErrOp},
		{api.Ins{Op: api.OpWide, Dst: 10}, api.ErrReg},
		{api.Ins{Op: api.OpExit, Off: 1}, api.ErrField},
		{api.Ins{Op: api.OpData, Imm: -1}, api.ErrImm},
	} {
		l := append(slices.Clone(ahead), c.ins)
		wantEncode(t, l, nil, 4, c.e)
		wantEncode(t, append(l, api.Ins{Op: -1}, exit), nil, 4, c.e)
	}
}

// TestNothing (P2.5, P2.6, P2.7): no bytes and an empty list, nil or not.
func TestNothing(t *testing.T) {
	for _, b := range [][]byte{nil, {}} {
		wantDecode(t, b, nil, 0, api.OK)
	}
	for _, l := range [][]api.Ins{nil, {}} {
		wantEncode(t, l, nil, 0, api.OK)
		wantUnits(t, l, []int{0})
	}
}

// TestShort (P2.4): what is cut off anywhere is ErrShort where the last instruction begins, or takes just what stands ahead of it.
func TestShort(t *testing.T) {
	b := raw("95 00 00 00 00 00 00 00, 18 04 00 00 ff ff ff ff, 00 00 00 00 01 00 00 00, b7 01 00 00 05 00 00 00")
	l := []api.Ins{{Op: api.OpExit}, {Op: api.OpWide, Dst: 4, Imm: 1<<33 - 1}, {Op: api.OpMov, Dst: 1, Imm: 5}}
	ends, begins := []int{0, 8, 24, 32}, []int{0, 1, 3, 4}
	for n := range len(b) + 1 {
		if k, is := slices.BinarySearch(ends, n); is {
			wantBoth(t, b[:n], l[:k])
		} else {
			wantDecode(t, b[:n], nil, begins[k-1], api.ErrShort)
		}
	}
}

// TestMany (P2.5, P2.6): MaxIns instructions are taken, and one more is ErrMany, behind the errors of those ahead of it and whatever it is.
func TestMany(t *testing.T) {
	exit, wide, none := api.Ins{Op: api.OpExit}, api.Ins{Op: api.OpWide, Dst: 9, Imm: -1 << 40}, api.Ins{}
	for _, i := range []api.Ins{exit, wide} {
		l := slices.Repeat([]api.Ins{i}, api.MaxIns)
		one, _, _ := code.Encode(l[:1])
		b := bytes.Repeat(one, api.MaxIns)
		units := len(b) / 8
		wantBoth(t, b, l)
		wantBoth(t, b[:len(b)-len(one)], l[1:])
		for _, more := range [][]byte{one, {0}, raw("ff ff ff ff ff ff ff ff"), b} {
			wantDecode(t, slices.Concat(b, more), nil, units, api.ErrMany)
		}
		for _, more := range [][]api.Ins{{exit}, {none}, l} {
			wantEncode(t, slices.Concat(l, more), nil, api.MaxIns, api.ErrMany)
		}
		// A fault ahead of that place is met first, at whatever length.
		for _, n := range []int{0, 1, api.MaxIns - 1} {
			faulty := slices.Concat(l, l)
			faulty[n] = api.Ins{Op: api.OpExit, Imm: 1}
			wantEncode(t, faulty, nil, n, api.ErrImm)
			wantEncode(t, faulty[:api.MaxIns], nil, n, api.ErrImm)
			at := n * len(one)
			wantDecode(t, slices.Concat(b[:at], raw("95 00 00 00 01 00 00 00"), b), nil, at/8, api.ErrImm)
		}
		wantDecode(t, append(b[:len(b)-len(one)], 0x95), nil, units-len(one)/8, api.ErrShort)
	}
}

// TestUnits (P2.7): OpWide and OpData take two units, all else one, right or not, in lists of any length.
func TestUnits(t *testing.T) {
	for _, op := range []int{math.MinInt, -1, 1<<32 + api.OpWide, 1<<32 + api.OpData, 256 + api.OpWide, math.MaxInt} {
		wantUnits(t, []api.Ins{{Op: op}}, []int{0, 1})
	}
	for op := -5; op < 300; op++ {
		n := 1
		if op == api.OpWide || op == api.OpData {
			n = 2
		}
		for _, i := range []api.Ins{{Op: op}, {Op: op, Narrow: true, Reg: true, Size: 7, Dst: -1, Src: 99, Off: 1 << 40, Imm: math.MinInt}} {
			wantUnits(t, []api.Ins{i}, []int{0, n})
			wantUnits(t, []api.Ins{i, {Op: api.OpData}, i, {}}, []int{0, n, n + 2, 2*n + 2, 2*n + 3})
		}
	}
	for _, n := range []int{api.MaxIns, api.MaxIns + 1, 3 * api.MaxIns} {
		l, want := make([]api.Ins, n), []int{0}
		for i := range l {
			l[i].Op = api.OpLe + i%5 // OpLe, OpBe, OpBswap, OpWide, OpData
			step := 1
			if i%5 >= 3 {
				step = 2
			}
			want = append(want, want[i]+step)
		}
		wantUnits(t, l, want)
	}
}

// TestLeaves (R3): lists and bytes that are handed in read as before, spare room too.
func TestLeaves(t *testing.T) {
	for _, text := range []string{
		"18 04 00 00 ff ff ff ff, 00 00 00 00 01 00 00 00, 0f 21 00 00 00 00 00 00, 95 00 00 00 00 00 00 00",
		"18 04 00 00 ff ff ff ff, 00 00 00 00 01 00 00 00, 0f 21 00 00 00 00 00 00, 95 00 00 00 00 00 00 01",
	} {
		b := raw(text)
		was := slices.Clone(b)
		for n := range len(b) + 1 {
			code.Decode(b[:n])
			if !bytes.Equal(b, was) {
				t.Fatalf("Decode(%s) left %s", short(was[:n]), short(b))
			}
		}
	}
	l := []api.Ins{{Op: api.OpWide, Dst: 4, Imm: 1 << 40}, {Op: api.OpAdd, Dst: 1}, {Op: api.OpData}, {Op: api.OpExit}, {Op: 77, Imm: 9}}
	was := slices.Clone(l)
	for n := range len(l) + 1 {
		code.Encode(l[:n])
		code.Check(l[:n])
		code.Units(l[:n])
		if !slices.Equal(l, was) {
			t.Fatalf("of %s is left %s", few(was[:n]), few(l))
		}
	}
}

// TestFresh (R3): an answer is new memory, spare room too, and hangs on nothing that is handed in.
func TestFresh(t *testing.T) {
	b := raw("18 04 00 00 ff ff ff ff, 00 00 00 00 01 00 00 00, 0f 21 00 00 00 00 00 00")
	l, _, _ := code.Decode(b)
	c, _, _ := code.Encode(l)
	u := code.Units(l)
	wantList, wantBytes, wantBegins := slices.Clone(l), slices.Clone(c), slices.Clone(u)
	other, _, _ := code.Decode(b)
	clear(b)
	clear(other[:cap(other)])
	if !slices.Equal(l, wantList) {
		t.Errorf("what Decode answered became %s", few(l))
	}
	again, _, _ := code.Encode(l)
	clear(again[:cap(again)])
	begins := code.Units(l)
	clear(begins[:cap(begins)])
	clear(l[:cap(l)])
	if !bytes.Equal(c, wantBytes) || !slices.Equal(u, wantBegins) {
		t.Errorf("what Encode and Units answered became %s, %v", short(c), u)
	}
	wantBoth(t, wantBytes, wantList)
	wantUnits(t, wantList, wantBegins)
}

// TestEveryUnit (P2.2, P2.4, P2.5): every opcode with registers, offsets and imms of all kinds, against the table; what is taken is written as it was (P2.8).
func TestEveryUnit(t *testing.T) {
	k := newBook()
	registers := []int{0, 1, 5, 6, 9, 10, 11, 15}
	offs := []int{0, 1, 2, 6, 7, 8, 16, 24, 32, 64, 0x100, 0x800, -1, -32768, 32767}
	immediates := []int{0, 1, 2, 8, 16, 31, 32, 63, 64, 65, 0x40, 0x41, 0x50, 0x51, 0x60, 0xa0, 0xa1, 0xe1, 0xf0, 0xf1, 0x100, 0x1000, 0x01000001, -1, -1 << 31, 1<<31 - 1}
	tails := [][]byte{unit(0, 0, 0, 0, 7), unit(0, 0, 0, 0, -7), unit(0, 1, 0, 0, 0)}
	for c := range 256 {
		for _, dst := range registers {
			for _, src := range registers {
				for _, off := range offs {
					for _, imm := range immediates {
						b := unit(byte(c), dst, src, off, imm)
						k.compare(t, b)
						if c == 0x18 {
							for _, v := range tails {
								k.compare(t, append(b, v...))
							}
						}
					}
				}
			}
		}
	}
}

// compare holds Decode, and of what it takes Encode, against the table.
func (k *book) compare(t *testing.T, b []byte) {
	t.Helper()
	l, at, e := k.decode(b)
	m, n, f := code.Decode(b)
	if !slices.Equal(l, m) || at != n || e != f {
		t.Errorf("Decode(%s) = %s, %d, %v; want %s, %d, %v", short(b), few(m), n, f, few(l), at, e)
	}
	if e == api.OK {
		wantEncode(t, m, b, 0, api.OK)
	}
}

// TestEveryIns (P2.3, P2.6): every operation with sizes, registers, offsets and Imm of all kinds, against the table; what is taken is read as it was (P2.8).
func TestEveryIns(t *testing.T) {
	k := newBook()
	for op := range api.OpExit + 2 {
		for _, size := range []int{0, 1, 2, 4, 8, 16, 32, 64} {
			for flags := range 4 {
				k.compareFields(t, api.Ins{Op: op, Size: size, Narrow: flags&1 != 0, Reg: flags&2 != 0})
			}
		}
	}
}

// compareFields holds Check and Encode, and of what they take Decode, against the table, for fields of all kinds.
func (k *book) compareFields(t *testing.T, i api.Ins) {
	t.Helper()
	registers := []int{-1, 0, 3, 9, 10, 11}
	offs := []int{-32769, -32768, 0, 1, 32767, 32768}
	immediates := []int{math.MinInt, -1<<31 - 1, -1 << 31, -1, 0, 1, 31, 32, 63, 64, 0x50, 0xa1, 0xe1, 0xf1, 1<<31 - 1, 1 << 31, math.MaxInt}
	for _, i.Dst = range registers {
		for _, i.Src = range registers {
			for _, i.Off = range offs {
				for _, i.Imm = range immediates {
					l := []api.Ins{i}
					at, e := k.check(l)
					wantCheck(t, l, at, e)
					b, n, f := code.Encode(l)
					if n != at || f != e || e != api.OK && len(b) != 0 {
						t.Errorf("Encode(%s) = %s, %d, %v; want %d, %v", few(l), short(b), n, f, at, e)
					}
					if e == api.OK {
						wantDecode(t, b, l, 0, api.OK)
					}
				}
			}
		}
	}
}

// some is a list of right instructions, of random rows and fields.
func some(r *rand.Rand, all []row, n int) []api.Ins {
	l := make([]api.Ins, 0, n)
	for len(l) < n {
		x := all[r.Intn(len(all))]
		right := x.right()
		i := right[r.Intn(len(right))]
		if x.named('o') && r.Intn(2) == 0 {
			i.Off = r.Intn(1<<16) - 1<<15
		}
		if v := int(r.Uint64()) >> r.Intn(64); x.named('i') && x.ins.Op != api.OpAtom && x.imms.has(v) {
			i.Imm = v
		}
		l = append(l, i)
	}
	return l
}

// TestThereAndBack (P2.8): lists of all kinds of instructions, and the bytes that they have; two lists have two texts.
func TestThereAndBack(t *testing.T) {
	r := rand.New(rand.NewSource(1))
	all := rows()
	k := newBook()
	texts := map[string][]api.Ins{}
	for range 3000 {
		l := some(r, all, r.Intn(12))
		b, at, e := code.Encode(l)
		if at != 0 || e != api.OK {
			t.Fatalf("Encode(%s) = %d, %v", few(l), at, e)
		}
		wantBoth(t, b, l)
		k.compare(t, b)
		if u := code.Units(l); u[len(l)]*8 != len(b) {
			t.Errorf("Units(%s) = %v; but there are %d bytes", few(l), u, len(b))
		}
		if m, is := texts[string(b)]; is && !slices.Equal(l, m) {
			t.Errorf("%s and %s are both %s", few(l), few(m), short(b))
		}
		texts[string(b)] = l
	}
}

// broken are the bytes of a list, with a few of them changed or cut off.
func broken(r *rand.Rand, b []byte) []byte {
	b = slices.Clone(b)
	for range r.Intn(3) {
		if len(b) > 0 {
			b[r.Intn(len(b))] ^= 1 << r.Intn(8)
		}
	}
	if r.Intn(4) == 0 {
		b = b[:r.Intn(len(b)+1)]
	}
	return b
}

// TestBroken (P2.4, P2.5): bytes that are nearly right, against the table.
func TestBroken(t *testing.T) {
	r := rand.New(rand.NewSource(2))
	all := rows()
	k := newBook()
	for range 30000 {
		b, _, _ := code.Encode(some(r, all, r.Intn(6)))
		k.compare(t, broken(r, b))
	}
}

// TestByThemselves (P2.9): what stands ahead changes nothing but the place, and a place that is refused is refused alone.
func TestByThemselves(t *testing.T) {
	r := rand.New(rand.NewSource(3))
	all := rows()
	for range 20000 {
		la := some(r, all, r.Intn(4))
		a, _, _ := code.Encode(la)
		b, _, _ := code.Encode(some(r, all, r.Intn(4)))
		b = broken(r, b)
		lb, at, e := code.Decode(b)
		if e == api.OK {
			wantDecode(t, slices.Concat(a, b), slices.Concat(la, lb), 0, api.OK)
			continue
		}
		wantDecode(t, slices.Concat(a, b), nil, len(a)/8+at, e)
		wantDecode(t, b[8*at:], nil, 0, e)
		if _, n, f := code.Decode(b[:8*at]); n != 0 || f != api.OK {
			t.Errorf("Decode(%s) = %d, %v, ahead of what is refused", short(b[:8*at]), n, f)
		}
	}
}

// TestEnds (R1): every call ends, and does not panic, at whatever it is handed.
func TestEnds(t *testing.T) {
	r := rand.New(rand.NewSource(4))
	k := newBook()
	for range 100000 {
		b := make([]byte, r.Intn(40))
		r.Read(b)
		k.compare(t, b)
	}
	anything := func() int {
		switch r.Intn(4) {
		case 0:
			return r.Intn(50) - 4
		case 1:
			return int(r.Uint64())
		case 2:
			return []int{math.MinInt, math.MaxInt, 1 << 31, -1 << 31, 1 << 32, -1<<31 - 1}[r.Intn(6)]
		}
		return 0
	}
	for range 100000 {
		l := make([]api.Ins, r.Intn(3))
		for n := range l {
			l[n] = api.Ins{Op: anything(), Narrow: r.Intn(2) == 0, Reg: r.Intn(2) == 0, Size: anything(), Dst: anything(), Src: anything(), Off: anything(), Imm: anything()}
		}
		at, e := k.check(l)
		wantCheck(t, l, at, e)
		b, n, f := code.Encode(l)
		if n != at || f != e {
			t.Errorf("Encode(%s) = %s, %d, %v; want %d, %v", few(l), short(b), n, f, at, e)
		}
		if u := code.Units(l); len(u) != len(l)+1 || u[0] != 0 {
			t.Errorf("Units(%s) = %v", few(l), u)
		}
	}
	long := make([]byte, 1<<24)
	wantDecode(t, long, nil, 0, api.ErrOp)
	wantCheck(t, make([]api.Ins, 1<<20), 0, api.ErrOp)
	if u := code.Units(make([]api.Ins, 1<<20)); u[1<<20] != 1<<20 {
		t.Errorf("Units of %d instructions ends with %d", 1<<20, u[1<<20])
	}
}

// TestAtOnce (R4): calls side by side know nothing of one another.
func TestAtOnce(t *testing.T) {
	r := rand.New(rand.NewSource(5))
	all := rows()
	var wait sync.WaitGroup
	for range 8 {
		l := some(r, all, 300)
		b, _, _ := code.Encode(l)
		wait.Go(func() {
			for range 20 {
				wantBoth(t, b, l)
				wantDecode(t, b[:len(b)-1], nil, code.Units(l)[len(l)-1], api.ErrShort)
			}
		})
	}
	wait.Wait()
}
