package code_test

import (
	"encoding/binary"
	"encoding/hex"
	"math"
	"slices"
	"strings"

	"warrant/api"
)

// The chapter's tables once more, written out row by row: what the package answers is held against these.

// row is an instruction of one opcode: its operation with Narrow, Reg and Size; which of d (Dst), s (Src), o (Off), i (Imm) it names; what is told of the other fields; and the Imm that it may have.
type row struct {
	opcode        byte
	ins           api.Ins
	names         string
	src, off, imm int
	imms          imms
}

// imms are the numbers from least to most but for not (if that is one of them), or those of a list.
type imms struct {
	least, most int
	not         []int
	list        []int
}

var (
	anyImm    = imms{least: -1 << 31, most: 1<<31 - 1}
	notZero   = imms{least: -1 << 31, most: 1<<31 - 1, not: []int{0}}
	to63      = imms{least: 0, most: 63}
	to31      = imms{least: 0, most: 31}
	positive  = imms{least: 0, most: 1<<31 - 1}
	allNumber = imms{least: math.MinInt, most: math.MaxInt}
	fetching  = []int{0x01, 0x41, 0x51, 0xa1, 0xe1}
	atoms     = imms{least: 0x00, most: 0xf1, list: []int{0x00, 0x01, 0x40, 0x41, 0x50, 0x51, 0xa0, 0xa1, 0xe1, 0xf1}}
)

func (m imms) has(v int) bool {
	if m.list != nil {
		return slices.Contains(m.list, v)
	}
	return m.least <= v && v <= m.most && !slices.Contains(m.not, v)
}

// edges are the least and the greatest, and what stands next to a number that is none.
func (m imms) edges() []int {
	l := []int{m.least, m.most}
	for _, v := range m.not {
		l = append(l, v-1, v+1)
	}
	return append(l, m.list...)
}

func (r row) named(f byte) bool { return strings.IndexByte(r.names, f) >= 0 }

// long tells whether it takes two units.
func (r row) long() bool { return r.opcode == 0x18 }

// writesDst and writesSrc tell whether r10 may not stand there.
func (r row) writesDst() bool { return r.ins.Op <= api.OpLoads && r.named('d') }

func writesSrc(i api.Ins) bool { return i.Op == api.OpAtom && slices.Contains(fetching, i.Imm) }

// rows is the whole table.
func rows() []row {
	return slices.Concat(arithmetic(), turning(), constants(), memory(), jumping())
}

// second are the four of an operation with a second operand: Imm and Reg, Narrow Imm and Reg.
func second(opcodes string, op int, names string, off int, wide, narrow imms) []row {
	c := raw(opcodes)
	return []row{
		{opcode: c[0], ins: api.Ins{Op: op}, names: names + "i", off: off, imms: wide},
		{opcode: c[1], ins: api.Ins{Op: op, Reg: true}, names: names + "s", off: off},
		{opcode: c[2], ins: api.Ins{Op: op, Narrow: true}, names: names + "i", off: off, imms: narrow},
		{opcode: c[3], ins: api.Ins{Op: op, Narrow: true, Reg: true}, names: names + "s", off: off},
	}
}

func arithmetic() []row {
	return slices.Concat(
		second("07 0f 04 0c", api.OpAdd, "d", 0, anyImm, anyImm),
		second("17 1f 14 1c", api.OpSub, "d", 0, anyImm, anyImm),
		second("27 2f 24 2c", api.OpMul, "d", 0, anyImm, anyImm),
		second("37 3f 34 3c", api.OpDiv, "d", 0, notZero, notZero),
		second("37 3f 34 3c", api.OpSdiv, "d", 1, notZero, notZero),
		second("97 9f 94 9c", api.OpMod, "d", 0, notZero, notZero),
		second("97 9f 94 9c", api.OpSmod, "d", 1, notZero, notZero),
		second("47 4f 44 4c", api.OpOr, "d", 0, anyImm, anyImm),
		second("57 5f 54 5c", api.OpAnd, "d", 0, anyImm, anyImm),
		second("a7 af a4 ac", api.OpXor, "d", 0, anyImm, anyImm),
		second("67 6f 64 6c", api.OpLsh, "d", 0, to63, to31),
		second("77 7f 74 7c", api.OpRsh, "d", 0, to63, to31),
		second("c7 cf c4 cc", api.OpArsh, "d", 0, to63, to31),
		second("b7 bf b4 bc", api.OpMov, "d", 0, anyImm, anyImm),
	)
}

func turning() []row {
	l := []row{
		{opcode: 0x87, ins: api.Ins{Op: api.OpNeg}, names: "d"},
		{opcode: 0x84, ins: api.Ins{Op: api.OpNeg, Narrow: true}, names: "d"},
	}
	for _, size := range []int{8, 16, 32} {
		l = append(l, row{opcode: 0xbf, ins: api.Ins{Op: api.OpMovs, Reg: true, Size: size}, names: "ds", off: size})
	}
	for _, size := range []int{8, 16} {
		l = append(l, row{opcode: 0xbc, ins: api.Ins{Op: api.OpMovs, Narrow: true, Reg: true, Size: size}, names: "ds", off: size})
	}
	for _, size := range []int{16, 32, 64} {
		l = append(l,
			row{opcode: 0xd4, ins: api.Ins{Op: api.OpLe, Size: size}, names: "d", imm: size},
			row{opcode: 0xdc, ins: api.Ins{Op: api.OpBe, Size: size}, names: "d", imm: size},
			row{opcode: 0xd7, ins: api.Ins{Op: api.OpBswap, Size: size}, names: "d", imm: size})
	}
	return l
}

func constants() []row {
	return []row{
		{opcode: 0x18, ins: api.Ins{Op: api.OpWide}, names: "di", imms: allNumber},
		{opcode: 0x18, ins: api.Ins{Op: api.OpData}, names: "di", src: 6, imms: positive},
	}
}

func memory() []row {
	return []row{
		{opcode: 0x71, ins: api.Ins{Op: api.OpLoad, Size: 1}, names: "dso"},
		{opcode: 0x69, ins: api.Ins{Op: api.OpLoad, Size: 2}, names: "dso"},
		{opcode: 0x61, ins: api.Ins{Op: api.OpLoad, Size: 4}, names: "dso"},
		{opcode: 0x79, ins: api.Ins{Op: api.OpLoad, Size: 8}, names: "dso"},
		{opcode: 0x91, ins: api.Ins{Op: api.OpLoads, Size: 1}, names: "dso"},
		{opcode: 0x89, ins: api.Ins{Op: api.OpLoads, Size: 2}, names: "dso"},
		{opcode: 0x81, ins: api.Ins{Op: api.OpLoads, Size: 4}, names: "dso"},
		{opcode: 0x73, ins: api.Ins{Op: api.OpStore, Reg: true, Size: 1}, names: "dso"},
		{opcode: 0x6b, ins: api.Ins{Op: api.OpStore, Reg: true, Size: 2}, names: "dso"},
		{opcode: 0x63, ins: api.Ins{Op: api.OpStore, Reg: true, Size: 4}, names: "dso"},
		{opcode: 0x7b, ins: api.Ins{Op: api.OpStore, Reg: true, Size: 8}, names: "dso"},
		{opcode: 0x72, ins: api.Ins{Op: api.OpStore, Size: 1}, names: "doi", imms: anyImm},
		{opcode: 0x6a, ins: api.Ins{Op: api.OpStore, Size: 2}, names: "doi", imms: anyImm},
		{opcode: 0x62, ins: api.Ins{Op: api.OpStore, Size: 4}, names: "doi", imms: anyImm},
		{opcode: 0x7a, ins: api.Ins{Op: api.OpStore, Size: 8}, names: "doi", imms: anyImm},
		{opcode: 0xc3, ins: api.Ins{Op: api.OpAtom, Size: 4}, names: "dsoi", imms: atoms},
		{opcode: 0xdb, ins: api.Ins{Op: api.OpAtom, Size: 8}, names: "dsoi", imms: atoms},
	}
}

func jumping() []row {
	return slices.Concat(
		second("15 1d 16 1e", api.OpJeq, "do", 0, anyImm, anyImm),
		second("25 2d 26 2e", api.OpJgt, "do", 0, anyImm, anyImm),
		second("35 3d 36 3e", api.OpJge, "do", 0, anyImm, anyImm),
		second("45 4d 46 4e", api.OpJset, "do", 0, anyImm, anyImm),
		second("55 5d 56 5e", api.OpJne, "do", 0, anyImm, anyImm),
		second("65 6d 66 6e", api.OpJsgt, "do", 0, anyImm, anyImm),
		second("75 7d 76 7e", api.OpJsge, "do", 0, anyImm, anyImm),
		second("a5 ad a6 ae", api.OpJlt, "do", 0, anyImm, anyImm),
		second("b5 bd b6 be", api.OpJle, "do", 0, anyImm, anyImm),
		second("c5 cd c6 ce", api.OpJslt, "do", 0, anyImm, anyImm),
		second("d5 dd d6 de", api.OpJsle, "do", 0, anyImm, anyImm),
		[]row{
			{opcode: 0x05, ins: api.Ins{Op: api.OpJa}, names: "o"},
			{opcode: 0x06, ins: api.Ins{Op: api.OpJa, Narrow: true}, names: "i", imms: anyImm},
			{opcode: 0x85, ins: api.Ins{Op: api.OpCall}, names: "i", imms: anyImm},
			{opcode: 0x95, ins: api.Ins{Op: api.OpExit}},
		},
	)
}

// raw are the bytes of a text in hexadecimal; blanks and commas don't count.
func raw(text string) []byte {
	b, err := hex.DecodeString(strings.NewReplacer(" ", "", ",", "").Replace(text))
	if err != nil {
		panic(err)
	}
	return b
}

// unit are the eight bytes of one.
func unit(opcode byte, dst, src, off, imm int) []byte {
	b := []byte{opcode, byte(dst | src<<4)}
	b = binary.LittleEndian.AppendUint16(b, uint16(off))
	return binary.LittleEndian.AppendUint32(b, uint32(imm))
}

// written are the bytes of a right instruction of that row.
func (r row) written(i api.Ins) []byte {
	src, off, imm := r.src, r.off, r.imm
	if r.named('s') {
		src = i.Src
	}
	if r.named('o') {
		off = i.Off
	}
	if r.named('i') {
		imm = i.Imm
	}
	switch i.Op {
	case api.OpWide:
		return append(unit(r.opcode, i.Dst, src, off, imm), unit(0, 0, 0, 0, imm>>32)...)
	case api.OpData:
		return append(unit(r.opcode, i.Dst, src, off, 0), unit(0, 0, 0, 0, imm)...)
	}
	return unit(r.opcode, i.Dst, src, off, imm)
}

// book is the table, found by opcode and by operation.
type book struct {
	byOpcode [256][]row
	byHead   map[api.Ins]row
}

func newBook() *book {
	k := &book{byHead: map[api.Ins]row{}}
	for _, r := range rows() {
		k.byOpcode[r.opcode] = append(k.byOpcode[r.opcode], r)
		k.byHead[r.ins] = r
	}
	return k
}

// wrong is P2.3.
func (k *book) wrong(i api.Ins) api.Errno {
	r, is := k.byHead[api.Ins{Op: i.Op, Narrow: i.Narrow, Reg: i.Reg, Size: i.Size}]
	if !is {
		return api.ErrOp
	}
	if r.named('d') && (i.Dst < 0 || i.Dst > 10 || i.Dst == 10 && r.writesDst()) {
		return api.ErrReg
	}
	if r.named('s') && (i.Src < 0 || i.Src > 10 || i.Src == 10 && writesSrc(i)) {
		return api.ErrReg
	}
	if !r.named('d') && i.Dst != 0 || !r.named('s') && i.Src != 0 || !r.named('o') && i.Off != 0 || i.Off < -32768 || i.Off > 32767 {
		return api.ErrField
	}
	if !r.named('i') && i.Imm != 0 || r.named('i') && !r.imms.has(i.Imm) {
		return api.ErrImm
	}
	return api.OK
}

// read is P2.4: the instruction at the first byte, and how many bytes it takes.
func (k *book) read(b []byte) (i api.Ins, n int, e api.Errno) {
	if len(b) < 8 {
		return i, 0, api.ErrShort
	}
	l := k.byOpcode[b[0]]
	if len(l) == 0 {
		return i, 0, api.ErrOp
	}
	n = 8
	if l[0].long() {
		n = 16
	}
	if len(b) < n {
		return i, 0, api.ErrShort
	}
	dst, src := int(b[1]&15), int(b[1]>>4)
	off := int(int16(binary.LittleEndian.Uint16(b[2:])))
	imm := int(int32(binary.LittleEndian.Uint32(b[4:])))
	// Rows of one opcode have the same registers.
	r := l[0]
	if r.named('d') && (dst > 10 || dst == 10 && r.writesDst()) {
		return i, 0, api.ErrReg
	}
	if r.named('s') && (src > 10 || src == 10 && writesSrc(api.Ins{Op: r.ins.Op, Imm: imm})) {
		return i, 0, api.ErrReg
	}
	e = api.ErrField
	for _, r = range l {
		if !r.named('d') && dst != 0 || !r.named('s') && src != r.src || !r.named('o') && off != r.off || r.long() && [4]byte(b[8:12]) != [4]byte{} {
			continue
		}
		e = api.ErrImm
		if i, is := r.take(b, dst, src, off, imm); is {
			return i, n, api.OK
		}
	}
	return api.Ins{}, 0, e
}

// take is the instruction of a row whose other fields are right, if its imm is.
func (r row) take(b []byte, dst, src, off, imm int) (api.Ins, bool) {
	i := r.ins
	i.Dst = dst
	if r.named('s') {
		i.Src = src
	}
	if r.named('o') {
		i.Off = off
	}
	switch i.Op {
	case api.OpWide:
		i.Imm = int(uint64(binary.LittleEndian.Uint32(b[4:])) | uint64(binary.LittleEndian.Uint32(b[12:]))<<32)
		return i, true
	case api.OpData:
		i.Imm = int(int32(binary.LittleEndian.Uint32(b[12:])))
		return i, imm == 0 && i.Imm >= 0
	}
	if !r.named('i') {
		return i, imm == r.imm
	}
	i.Imm = imm
	return i, r.imms.has(imm)
}

// decode is P2.5.
func (k *book) decode(b []byte) (l []api.Ins, at int, e api.Errno) {
	for len(b) > 0 {
		if len(l) == api.MaxIns {
			return nil, at, api.ErrMany
		}
		i, n, e := k.read(b)
		if e != api.OK {
			return nil, at, e
		}
		l, b, at = append(l, i), b[n:], at+n/8
	}
	return l, 0, api.OK
}

// check is P2.6.
func (k *book) check(l []api.Ins) (at int, e api.Errno) {
	for n, i := range l {
		if n == api.MaxIns {
			return n, api.ErrMany
		}
		if e := k.wrong(i); e != api.OK {
			return n, e
		}
	}
	return 0, api.OK
}
