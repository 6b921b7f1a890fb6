package pack_test

import (
	"bytes"
	"encoding/binary"
	"encoding/hex"
	"fmt"
	"slices"

	"warrant/api"
	"warrant/code"
)

// This file has the chapter's words once more, by other means: rules that are gone through, text, and the code's bytes.

// rule is one line of the chapter: whether it is so, the place that it names, its error.
type rule struct {
	is bool
	at int
	e  api.Errno
}

// first is the first rule that is so.
func first(l ...rule) (rule, bool) {
	n := slices.IndexFunc(l, func(r rule) bool { return r.is })
	if n < 0 {
		return rule{}, false
	}
	return l[n], true
}

func oracleSizes(lo, hi int, tables []api.Table, data []byte) api.Errno {
	rules := []rule{{lo < 0, 0, api.ErrLens}, {lo > hi, 0, api.ErrLens}, {hi > 65535, 0, api.ErrLens}, {len(tables) > 8, 0, api.ErrTable}}
	for _, t := range tables {
		rules = append(rules, rule{min(t.Rows, t.Wide) < 1 || max(t.Rows, t.Wide) > 64, 0, api.ErrTable})
	}
	r, _ := first(append(rules, rule{len(data) > 4096, 0, api.ErrData})...)
	return r.e
}

// little is a number of so many bytes in hexadecimal, the lowest one first.
func little(n, size int) string {
	return hex.EncodeToString(binary.LittleEndian.AppendUint64(nil, uint64(n))[:size])
}

func oracleEncode(k api.Pack) ([]byte, api.Errno) {
	if e := oracleSizes(k.Lo, k.Hi, k.Tables, k.Data); e != api.OK {
		return nil, e
	}
	if len(k.Code) > api.MaxPack {
		return nil, api.ErrLong
	}
	text := hex.EncodeToString([]byte("WPK1")) + "01040000" + little(k.Lo, 2) + little(k.Hi, 2)
	if n := len(k.Tables); n > 0 {
		text += "02" + little(2*n, 3)
		for _, t := range k.Tables {
			text += fmt.Sprintf("%02x%02x", t.Rows, t.Wide)
		}
	}
	if n := len(k.Data); n > 0 {
		text += "03" + little(n, 3) + hex.EncodeToString(k.Data)
	}
	if n := len(k.Code); n > 0 {
		text += "04" + little(n, 3) + hex.EncodeToString(k.Code)
	}
	b := summed(raw(text))
	if len(b) > 1<<17 {
		return nil, api.ErrLong
	}
	return b, api.OK
}

// piece is a section as its bytes say, whatever they are: where it begins, how much of it there is.
type piece struct {
	at, kind, size int
	head           bool // its first four bytes are there
	contents       []byte
}

// pieces cuts what stands between a beginning and a sum, as far as it goes.
func pieces(b []byte) (l []piece) {
	for at := 4; at < len(b); {
		rest := b[at:]
		p := piece{at: at, kind: int(rest[0]), head: len(rest) >= 4}
		if p.head {
			p.size = int(binary.LittleEndian.Uint32(rest) >> 8)
			p.contents = rest[4:min(4+p.size, len(rest))]
		}
		l = append(l, p)
		at += 4 + p.size
	}
	return l
}

// faults are the rules for a piece, in the chapter's order.
func (p piece) faults(ahead, end int) []rule {
	l := []rule{
		{p.kind < 1 || p.kind > 4, p.at, api.ErrPack},
		{p.kind <= ahead, p.at, api.ErrPack},
		{ahead == 0 && p.kind != 1, p.at, api.ErrPack},
		{!p.head, end, api.ErrPack},
		{p.size == 0, p.at + 1, api.ErrPack},
		{p.kind == 1 && p.size != 4, p.at + 1, api.ErrPack},
		{p.kind == 2 && p.size%2 == 1, p.at + 1, api.ErrPack},
		{p.kind == 2 && p.size/2 > 8, p.at + 1, api.ErrTable},
		{p.kind == 3 && p.size > 4096, p.at + 1, api.ErrData},
		{len(p.contents) < p.size, end, api.ErrPack},
	}
	if p.kind == 1 && len(p.contents) == 4 {
		l = append(l, rule{bytes.Compare([]byte{p.contents[1], p.contents[0]}, []byte{p.contents[3], p.contents[2]}) > 0, p.at + 4, api.ErrLens})
	}
	if p.kind != 2 {
		return l
	}
	for n, size := range p.contents {
		l = append(l, rule{size == 0 || size > 64, p.at + 4 + n, api.ErrTable})
	}
	return l
}

func oracleDecode(b []byte) (k api.Pack, at int, e api.Errno) {
	n := len(b)
	if r, is := first(rule{n > 1<<17, 0, api.ErrLong}, rule{n < 8, n, api.ErrPack}, rule{!bytes.HasPrefix(b, []byte("WPK1")), 0, api.ErrPack}); is {
		return k, r.at, r.e
	}
	if !bytes.Equal(summed(b[:n-4]), b) {
		return k, n - 4, api.ErrSum
	}
	ahead, l := 0, pieces(b[:n-4])
	for _, p := range l {
		if r, is := first(p.faults(ahead, n-4)...); is {
			return k, r.at, r.e
		}
		ahead = p.kind
	}
	if len(l) == 0 {
		return k, n - 4, api.ErrPack
	}
	return joined(l), 0, api.OK
}

// joined is what right pieces say.
func joined(l []piece) (k api.Pack) {
	for _, p := range l {
		switch p.kind {
		case 1:
			k.Lo, k.Hi = int(p.contents[0])+256*int(p.contents[1]), int(p.contents[2])+256*int(p.contents[3])
		case 2:
			for pair := range slices.Chunk(p.contents, 2) {
				k.Tables = append(k.Tables, table(int(pair[0]), int(pair[1])))
			}
		case 3:
			k.Data = bytes.Clone(p.contents)
		case 4:
			k.Code = bytes.Clone(p.contents)
		}
	}
	return k
}

// pointers are the units of right code at which an OpData begins, and what these say, as its bytes have it.
func pointers(b []byte) (units, imms []int) {
	for at := 0; at < len(b); at += 8 {
		if b[at] != 0x18 {
			continue
		}
		at += 8
		if b[at-7]>>4 == 6 {
			units, imms = append(units, at/8-1), append(imms, int(binary.LittleEndian.Uint32(b[at+4:])))
		}
	}
	return units, imms
}

func oracleProgram(k api.Pack) (p api.Program, at int, e api.Errno) {
	if e := oracleSizes(k.Lo, k.Hi, k.Tables, k.Data); e != api.OK {
		return p, 0, e
	}
	l, at, e := code.Decode(k.Code)
	if e != api.OK {
		return p, at, e
	}
	if len(k.Code) == 0 {
		return p, 0, api.ErrNoIns
	}
	units, imms := pointers(k.Code)
	for n, imm := range imms {
		if imm > len(k.Data) {
			return p, units[n], api.ErrData
		}
	}
	return instructed(k, l...), 0, api.OK
}

func oracleOf(p api.Program) (k api.Pack, at int, e api.Errno) {
	if e := oracleSizes(p.Lo, p.Hi, p.Tables, p.Data); e != api.OK {
		return k, 0, e
	}
	b, at, e := code.Encode(p.Code)
	if e != api.OK {
		return k, at, e
	}
	if len(p.Code) == 0 {
		return k, 0, api.ErrNoIns
	}
	for n, i := range p.Code {
		if i.Op == api.OpData && i.Imm > len(p.Data) {
			return k, n, api.ErrData
		}
	}
	return api.Pack{Lo: p.Lo, Hi: p.Hi, Data: p.Data, Tables: p.Tables, Code: b}, 0, api.OK
}
