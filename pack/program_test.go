package pack_test

import (
	"bytes"
	"fmt"
	"math"
	"slices"
	"strings"
	"testing"

	"warrant/api"
)

const (
	wide    = "18 03 00 00 ff ff ff ff, 00 00 00 00 ff ff ff 7f"
	pointer = "18 64 00 00 00 00 00 00, 00 00 00 00"
)

func wideIns() api.Ins { return api.Ins{Op: api.OpWide, Dst: 3, Imm: math.MaxInt} }

// TestPrograms (P12.3, P12.4): containers and programs that are one another's.
func TestPrograms(t *testing.T) {
	wantProgram(t, coded(exit), program(leave()))
	wantProgram(t, coded(exit, exit), program(leave(), leave()))
	wantProgram(t, coded("b7 01 00 00 05 00 00 00", wide, exit), program(api.Ins{Op: api.OpMov, Dst: 1, Imm: 5}, wideIns(), leave()))
	wantProgram(t, coded("05 00 ff ff 00 00 00 00"), program(api.Ins{Op: api.OpJa, Off: -1})) // where it leads to is asked elsewhere
	wantProgram(t, coded("85 00 00 00 ff ff ff 7f"), program(api.Ins{Op: api.OpCall, Imm: math.MaxInt32}))
	k := api.Pack{Lo: 65535, Hi: 65535, Data: bytes.Repeat([]byte{9, 8}, 2048), Tables: slices.Repeat([]api.Table{table(64, 64)}, 8), Code: raw(pointer, "00 10 00 00", exit)}
	wantProgram(t, k, instructed(k, api.Ins{Op: api.OpData, Dst: 4, Imm: 4096}, leave()))
}

// broken are wrong instructions as bytes, of one unit each or less, and as data, with their error.
func broken() []struct {
	bytes string
	ins   api.Ins
	e     api.Errno
} {
	return []struct {
		bytes string
		ins   api.Ins
		e     api.Errno
	}{
		{"00 00 00 00 00 00 00 00", api.Ins{}, api.ErrOp},
		{"b7 0a 00 00 05 00 00 00", api.Ins{Op: api.OpMov, Dst: 10, Imm: 5}, api.ErrReg},
		{"95 00 01 00 00 00 00 00", api.Ins{Op: api.OpExit, Off: 1}, api.ErrField},
		{"37 01 00 00 00 00 00 00", api.Ins{Op: api.OpDiv, Dst: 1}, api.ErrImm},
	}
}

// TestWrongCode (P12.3, P12.4): the errors of instructions, with their units and with their places in the list.
func TestWrongCode(t *testing.T) {
	ahead := []struct {
		bytes string
		l     []api.Ins
		units int
	}{
		{"", nil, 0},
		{exit, []api.Ins{leave()}, 1},
		{wide, []api.Ins{wideIns()}, 2},
		{wide + exit + wide, []api.Ins{wideIns(), leave(), wideIns()}, 5},
		{exit + pointer + "ff ff ff 7f" + exit, []api.Ins{leave(), data(math.MaxInt32), leave()}, 4}, // beyond the data, but that is asked behind
	}
	for _, a := range ahead {
		for _, w := range broken() {
			wantNone(t, coded(a.bytes, w.bytes), a.units, w.e)
			wantNone(t, coded(a.bytes, w.bytes, exit), a.units, w.e)
			wantNone(t, coded(a.bytes, w.bytes, exit, "95"), a.units, w.e)
			wantWrong(t, program(slices.Concat(a.l, []api.Ins{w.ins})...), len(a.l), w.e)
			wantWrong(t, program(slices.Concat(a.l, []api.Ins{w.ins, leave(), {}})...), len(a.l), w.e)
		}
		for n := 1; n < 8; n++ {
			b := raw(exit)[:n]
			wantNone(t, coded(a.bytes, fmt.Sprintf("%x", b)), a.units, api.ErrShort)
		}
		for n := 8; n < 16; n++ {
			wantNone(t, coded(a.bytes, fmt.Sprintf("%x", raw(wide)[:n])), a.units, api.ErrShort)
		}
	}
}

// TestMany (P12.3, P12.4): MaxIns instructions, and one more.
func TestMany(t *testing.T) {
	l := slices.Repeat([]api.Ins{leave()}, 4096)
	k := coded(strings.Repeat(exit, 4096))
	wantProgram(t, k, program(l...))
	wantWrong(t, program(append(l, leave())...), 4096, api.ErrMany)
	for _, more := range []string{"95", exit, wide, "00 00 00 00 00 00 00 00"} {
		wantNone(t, coded(strings.Repeat(exit, 4096), more), 4096, api.ErrMany)
		wantNone(t, coded(wide, strings.Repeat(exit, 4095), more), 4097, api.ErrMany)
	}
	l[17] = data(1)
	wantWrong(t, program(l...), 17, api.ErrData)
	wantWrong(t, program(append(l, leave())...), 4096, api.ErrMany)
	l[4000] = api.Ins{}
	wantWrong(t, program(append(l, leave())...), 4000, api.ErrOp)
}

// TestNoInstruction (P12.3, P12.4): sizes are right, and there is nothing else.
func TestNoInstruction(t *testing.T) {
	for _, k := range []api.Pack{{}, bounded(0, 9), {Hi: 9, Data: []byte{7}, Tables: tables(8)}} {
		wantNone(t, k, 0, api.ErrNoIns)
		wantWrong(t, instructed(k), 0, api.ErrNoIns)
		k.Code = []byte{}
		wantNone(t, k, 0, api.ErrNoIns)
		wantWrong(t, instructed(k, []api.Ins{}...), 0, api.ErrNoIns)
	}
}

// beyondData wants an OpData at the number of data bytes to be taken, and one past it to be refused at the unit and the place that are told.
func beyondData(t *testing.T, n int, ahead []api.Ins, aheadBytes string, unit int) {
	t.Helper()
	k := api.Pack{Hi: 9, Data: make([]byte, n)}
	for _, imm := range []int{0, n / 2, n, n + 1, n + 2, n + 256, n + 65536, math.MaxInt32} {
		at := api.Ins{Op: api.OpData, Dst: 4, Imm: imm}
		k.Code = raw(aheadBytes, pointer, fmt.Sprintf("%02x%02x%02x%02x", byte(imm), byte(imm>>8), byte(imm>>16), byte(imm>>24)), exit)
		p := instructed(k, slices.Concat(ahead, []api.Ins{at, leave()})...)
		if imm <= n {
			wantProgram(t, k, p)
			continue
		}
		wantNone(t, k, unit, api.ErrData)
		wantWrong(t, p, len(ahead), api.ErrData)
		more := instructed(k, slices.Concat(ahead, []api.Ins{at, {Op: api.OpData, Imm: math.MaxInt32}, leave()})...) // the first is told
		wantWrong(t, more, len(ahead), api.ErrData)
		k.Code = slices.Concat(k.Code, raw(pointer, "ff ff ff 7f", exit))
		wantNone(t, k, unit, api.ErrData)
		wantNone(t, api.Pack{Hi: 9, Data: k.Data, Code: slices.Concat(k.Code, raw("95"))}, unit+6, api.ErrShort) // what is no instruction, ahead of it
	}
}

// TestBeyondData (P12.3, P12.4): OpData at the end of the data and beyond, behind instructions of one unit and of two.
func TestBeyondData(t *testing.T) {
	small := api.Ins{Op: api.OpMov, Dst: 1, Imm: 5}
	const smallBytes = "b7 01 00 00 05 00 00 00"
	for _, n := range []int{0, 1, 2, 8, 255, 256, 4095, 4096} {
		beyondData(t, n, nil, "", 0)
		beyondData(t, n, []api.Ins{small}, smallBytes, 1)
		beyondData(t, n, []api.Ins{wideIns()}, wide, 2)
		beyondData(t, n, []api.Ins{small, wideIns(), small}, smallBytes+wide+smallBytes, 4)
		beyondData(t, n, []api.Ins{data(0), data(n), wideIns()}, "18 60 00 00 00 00 00 00, 00 00 00 00 00 00 00 00"+fmt.Sprintf("18 60 00 00 00 00 00 00, 00 00 00 00 %02x%02x 00 00", byte(n), byte(n>>8))+wide, 6)
	}
}

// TestOthersNumbers (P12.3, P12.4): of no other operation a number is held against the data.
func TestOthersNumbers(t *testing.T) {
	wantProgram(t, coded(wide, exit), program(wideIns(), leave()))
	wantProgram(t, coded("b7 01 00 00 ff ff ff 7f", exit), program(api.Ins{Op: api.OpMov, Dst: 1, Imm: math.MaxInt32}, leave()))
	wantProgram(t, coded("06 00 00 00 ff ff ff 7f"), program(api.Ins{Op: api.OpJa, Narrow: true, Imm: math.MaxInt32}))
	wantProgram(t, coded("79 00 ff 7f 00 00 00 00"), program(api.Ins{Op: api.OpLoad, Size: 8, Off: 32767}))
}
