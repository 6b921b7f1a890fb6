package pack_test

import (
	"bytes"
	"math"
	"math/rand"
	"slices"
	"testing"

	"warrant/api"
	"warrant/code"
	"warrant/pack"
)

// dice draws containers, bytes and programs; about one thing of wrong (0: none) is none that there may be.
type dice struct {
	*rand.Rand
	wrong int
}

func drawing(seed int64, wrong int) dice { return dice{rand.New(rand.NewSource(seed)), wrong} }

func (d dice) one(of int) bool { return of > 0 && d.Intn(of) == 0 }

// number is one from least to most, often at its ends, and seldom beyond them.
func (d dice) number(least, most int) int {
	switch {
	case d.one(d.wrong):
		return []int{least - 1, most + 1, -most, most + 256, least + 65536, math.MinInt, math.MaxInt}[d.Intn(7)]
	case d.one(4):
		return []int{least, most}[d.Intn(2)]
	}
	return least + d.Intn(most-least+1)
}

// count is how many of something there are: mostly few, or just as many as there may be, and seldom more.
func (d dice) count(few, most int) int {
	switch {
	case d.one(d.wrong):
		return most + 1 + d.Intn(3)
	case d.one(12):
		return most
	}
	return d.Intn(few)
}

func (d dice) bytes(n int) []byte {
	b := make([]byte, n)
	d.Read(b)
	return b
}

// bare is a container without code.
func (d dice) bare() api.Pack {
	k := api.Pack{Hi: d.number(0, api.MaxCtx)}
	k.Lo = k.Hi
	if k.Hi >= 0 && k.Hi < math.MaxInt && !d.one(3) {
		k.Lo = d.Intn(k.Hi + 1)
	}
	if d.one(d.wrong) {
		k.Lo = []int{-1, k.Hi + 1, math.MinInt}[d.Intn(3)]
	}
	for range d.count(4, api.MaxTables) {
		k.Tables = append(k.Tables, table(d.number(1, api.MaxRows), d.number(1, api.MaxWide)))
	}
	k.Data = d.bytes(d.count(20, api.MaxData))
	return k
}

// pack is a container of which the code is any bytes.
func (d dice) pack() api.Pack {
	k := d.bare()
	k.Code = d.bytes(d.Intn(30))
	switch {
	case d.one(100):
		k.Code = d.bytes(api.MaxPack - d.Intn(100))
	case d.one(30):
		k.Code = d.bytes(d.Intn(1000))
	}
	return k
}

// instruction is what drawn bytes are read as, once they are an instruction.
func (d dice) instruction() api.Ins {
	for {
		b := make([]byte, 16)
		d.Read(b[:1])
		b[1] = byte(d.Intn(11) | d.Intn(11)<<4)
		if d.one(2) {
			b[1] &= 15
		}
		if d.one(3) {
			d.Read(b[2:4])
		}
		if d.one(2) {
			d.Read(b[4:8])
		}
		if d.one(4) {
			b = []byte{0x18, byte(d.Intn(10) + 0x60), 15: 0}
			b[12], b[13] = byte(d.Intn(30)), byte(d.Intn(40)/38)
		}
		n := 8
		if b[0] == 0x18 {
			n = 16
		}
		if l, _, e := code.Decode(b[:n]); e == api.OK {
			return l[0]
		}
	}
}

// program is one of right instructions, but for about one of wrong.
func (d dice) program() api.Program {
	p := instructed(d.bare())
	for range d.Intn(9) {
		i := d.instruction()
		if i.Op == api.OpData && i.Imm > len(p.Data) && !d.one(3) {
			i.Imm = d.Intn(len(p.Data) + 1)
		}
		if d.one(d.wrong) {
			i.Dst = d.number(0, 10)
		}
		if d.one(d.wrong) {
			i.Op, i.Imm = d.number(0, api.OpExit), d.number(0, 1<<31-1)
		}
		p.Code = append(p.Code, i)
	}
	if d.one(d.wrong * 3) {
		p.Code = slices.Repeat(append(p.Code, leave()), api.MaxIns)
	}
	return p
}

// turned is bytes of a container with something changed, mostly with a right sum.
func (d dice) turned(b []byte) []byte {
	b = bytes.Clone(b[:len(b)-4])
	for range 1 + d.Intn(2) {
		at := d.Intn(len(b))
		if d.one(2) {
			at = min(at, d.Intn(40)) // about the heads of sections
		}
		switch d.Intn(6) {
		case 0:
			b[at] = byte(d.Intn(256))
		case 1, 2:
			b[at] = byte(d.Intn(8))
		case 3:
			b[at] += byte(d.Intn(3) - 1)
		case 4:
			b = slices.Insert(b, at, d.bytes(1+d.Intn(3))...)
		case 5:
			b = slices.Delete(b, at, min(len(b), at+1+d.Intn(4)))
		}
		if len(b) == 0 {
			break
		}
	}
	if d.one(10) {
		return b
	}
	return summed(b)
}

// pieced is a beginning and sections that are drawn one by one, right ones and wrong ones.
func (d dice) pieced() []byte {
	b := raw(mark)
	kinds := []int{1, 2, 3, 4}
	if d.one(3) {
		kinds = []int{d.Intn(6), d.Intn(6), d.Intn(6)}
	}
	for n, kind := range kinds {
		if n > 0 && d.one(4) {
			continue
		}
		size := []int{d.Intn(9), 4, 2 * d.Intn(10), d.Intn(20), d.Intn(40)}[min(kind, 4)]
		if d.one(6) {
			size = []int{0, 4, 16, 17, 18, 4096, 4097, 5000}[d.Intn(8)]
		}
		b = append(b, byte(kind), byte(size), byte(size>>8), byte(d.Intn(60)/59))
		body := d.bytes(size)
		for n := range body {
			if kind == 2 && !d.one(12) {
				body[n] = byte(1 + d.Intn(64))
			}
		}
		if kind == 1 && size == 4 && !d.one(4) {
			body[1] = 0
		}
		b = append(b, body...)
	}
	if d.one(4) {
		b = b[:4+d.Intn(len(b)-3)]
	}
	return summed(b)
}

// TestEncodeWhole (P12.1): drawn containers are written, or refused, as the chapter says.
func TestEncodeWhole(t *testing.T) {
	seen := map[api.Errno]int{}
	for n := range 20000 {
		k := drawing(int64(n), n%3*12).pack()
		b, e := pack.Encode(k)
		want, wantE := oracleEncode(k)
		if e != wantE || !bytes.Equal(b, want) {
			t.Fatalf("Encode(%s): %s, %v; want %s, %v", told(k), cut(b), e, cut(want), wantE)
		}
		seen[e]++
	}
	wantSeen(t, seen, api.OK, api.ErrLens, api.ErrTable, api.ErrData, api.ErrLong)
}

// wantSeen wants each of these errors to have been met often.
func wantSeen(t *testing.T, seen map[api.Errno]int, l ...api.Errno) {
	t.Helper()
	for _, e := range l {
		if seen[e] < 20 {
			t.Errorf("error %d was met %d times alone", int(e), seen[e])
		}
	}
}

// TestDecodeWhole (P12.2): drawn bytes are read, or refused at their place, as the chapter says.
func TestDecodeWhole(t *testing.T) {
	seen := map[api.Errno]int{}
	for n := range 60000 {
		d := drawing(int64(n), 0)
		b := d.pieced()
		if n%2 == 0 {
			ahead, e := oracleEncode(d.pack())
			if e != api.OK {
				continue // one whose bytes are too many
			}
			b = d.turned(ahead)
		}
		k, at, e := pack.Decode(b)
		want, wantAt, wantE := oracleDecode(b)
		if e != wantE || at != wantAt || !samePack(k, want) {
			t.Fatalf("Decode(%s): %s, %d, %v; want %s, %d, %v", cut(b), told(k), at, e, told(want), wantAt, wantE)
		}
		seen[e]++
	}
	wantSeen(t, seen, api.OK, api.ErrPack, api.ErrSum, api.ErrLens, api.ErrTable, api.ErrData)
}

// TestProgramWhole (P12.3): drawn containers are read as programs, or refused at their unit, as the chapter says.
func TestProgramWhole(t *testing.T) {
	seen := map[api.Errno]int{}
	for n := range 30000 {
		d := drawing(int64(n), n%3*20)
		k := d.pack()
		if n%4 > 0 {
			k.Code, _, _ = code.Encode(drawing(int64(n), 0).program().Code)
		}
		if d.wrong > 0 && len(k.Code) > 0 && d.one(4) {
			k.Code[d.Intn(len(k.Code))] = byte(d.Intn(256))
		}
		p, at, e := pack.Program(k)
		want, wantAt, wantE := oracleProgram(k)
		if e != wantE || at != wantAt || !sameProgram(p, want) {
			t.Fatalf("Program(%s): %s, %d, %v; want %s, %d, %v", told(k), listed(p), at, e, listed(want), wantAt, wantE)
		}
		seen[e]++
	}
	wantSeen(t, seen, api.OK, api.ErrLens, api.ErrTable, api.ErrData, api.ErrShort, api.ErrOp, api.ErrReg, api.ErrField, api.ErrImm, api.ErrNoIns)
}

// TestOfWhole (P12.4): drawn programs are taken, or refused at their place, as the chapter says.
func TestOfWhole(t *testing.T) {
	seen := map[api.Errno]int{}
	for n := range 30000 {
		p := drawing(int64(n), n%3*25).program()
		k, at, e := pack.Of(p)
		want, wantAt, wantE := oracleOf(p)
		if e != wantE || at != wantAt || !samePack(k, want) {
			t.Fatalf("Of(%s): %s, %d, %v; want %s, %d, %v", listed(p), told(k), at, e, told(want), wantAt, wantE)
		}
		if at, e := pack.Check(p); at != wantAt || e != wantE {
			t.Fatalf("Check(%s): %d, %v; want %d, %v", listed(p), at, e, wantAt, wantE)
		}
		seen[e]++
	}
	wantSeen(t, seen, api.OK, api.ErrLens, api.ErrTable, api.ErrData, api.ErrOp, api.ErrReg, api.ErrField, api.ErrImm, api.ErrMany, api.ErrNoIns)
}
