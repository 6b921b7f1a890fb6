package pack_test

import (
	"bytes"
	"encoding/binary"
	"encoding/hex"
	"hash/fnv"
	"slices"
	"strings"
	"testing"

	"warrant/api"
	"warrant/pack"
)

// What containers are made of, in hexadecimal.
const (
	mark   = "57 50 4b 31"
	lens   = "01 04 00 00, 00 00 09 00"
	exit   = "95 00 00 00 00 00 00 00"
	before = mark + lens
)

// raw is bytes that are written in hexadecimal; spaces, commas and the sign ^ are for those who read it.
func raw(l ...string) []byte {
	b, err := hex.DecodeString(strings.NewReplacer(" ", "", ",", "", "^", "").Replace(strings.Join(l, "")))
	if err != nil {
		panic(err)
	}
	return b
}

// placed tells how many bytes stand ahead of the sign ^.
func placed(l ...string) int {
	ahead, _, is := strings.Cut(strings.Join(l, ""), "^")
	if !is {
		panic("no place is told")
	}
	return len(raw(ahead))
}

// summed is bytes with their sum behind them, by the library's own reckoning of it.
func summed(b []byte) []byte {
	h := fnv.New32a()
	h.Write(b)
	return binary.LittleEndian.AppendUint32(bytes.Clone(b), h.Sum32())
}

func table(rows, wide int) api.Table { return api.Table{Rows: rows, Wide: wide} }

func tables(n int) []api.Table { return slices.Repeat([]api.Table{table(2, 3)}, n) }

// bounded is a container of nothing but its lengths.
func bounded(lo, hi int) api.Pack { return api.Pack{Lo: lo, Hi: hi} }

// coded is a container of code alone.
func coded(l ...string) api.Pack { return api.Pack{Hi: 9, Code: raw(l...)} }

// program is one of instructions alone.
func program(l ...api.Ins) api.Program { return api.Program{Hi: 9, Code: l} }

func leave() api.Ins { return api.Ins{Op: api.OpExit} }

func data(at int) api.Ins { return api.Ins{Op: api.OpData, Imm: at} }

func samePack(a, b api.Pack) bool {
	return a.Lo == b.Lo && a.Hi == b.Hi && bytes.Equal(a.Data, b.Data) && slices.Equal(a.Tables, b.Tables) && bytes.Equal(a.Code, b.Code)
}

func sameProgram(a, b api.Program) bool {
	return a.Lo == b.Lo && a.Hi == b.Hi && bytes.Equal(a.Data, b.Data) && slices.Equal(a.Tables, b.Tables) && slices.Equal(a.Code, b.Code)
}

// wantBoth wants a container to be written as these bytes and their sum, and these to be read as that container.
func wantBoth(t *testing.T, k api.Pack, l ...string) {
	t.Helper()
	want := summed(raw(l...))
	if b, e := pack.Encode(k); e != api.OK || !bytes.Equal(b, want) {
		t.Errorf("Encode(%s): %s, %v; want %s", told(k), cut(b), e, cut(want))
	}
	wantRead(t, want, k)
}

func wantRead(t *testing.T, b []byte, want api.Pack) {
	t.Helper()
	if k, at, e := pack.Decode(b); e != api.OK || at != 0 || !samePack(k, want) {
		t.Errorf("Decode(%s): %s, %d, %v; want %s", cut(b), told(k), at, e, told(want))
	}
}

func wantUnwritten(t *testing.T, k api.Pack, want api.Errno) {
	t.Helper()
	if b, e := pack.Encode(k); e != want || len(b) > 0 {
		t.Errorf("Encode(%s): %s, %v; want %v", told(k), cut(b), e, want)
	}
}

// wantBad wants bytes to be refused at a place.
func wantBad(t *testing.T, b []byte, wantAt int, want api.Errno) {
	t.Helper()
	if k, at, e := pack.Decode(b); e != want || at != wantAt || !samePack(k, api.Pack{}) {
		t.Errorf("Decode(%s): %s, %d, %v; want %d, %v", cut(b), told(k), at, e, wantAt, want)
	}
}

// wantUnread wants bytes, with their sum behind them, to be refused at the place that ^ tells.
func wantUnread(t *testing.T, want api.Errno, l ...string) {
	t.Helper()
	wantBad(t, summed(raw(l...)), placed(l...), want)
}

// wantProgram wants a container and a program to be one another's.
func wantProgram(t *testing.T, k api.Pack, p api.Program) {
	t.Helper()
	if got, at, e := pack.Program(k); e != api.OK || at != 0 || !sameProgram(got, p) {
		t.Errorf("Program(%s): %s, %d, %v; want %s", told(k), listed(got), at, e, listed(p))
	}
	if got, at, e := pack.Of(p); e != api.OK || at != 0 || !samePack(got, k) {
		t.Errorf("Of(%s): %s, %d, %v; want %s", listed(p), told(got), at, e, told(k))
	}
	if at, e := pack.Check(p); e != api.OK || at != 0 {
		t.Errorf("Check(%s): %d, %v", listed(p), at, e)
	}
}

// wantNone wants a container to be no program's.
func wantNone(t *testing.T, k api.Pack, wantAt int, want api.Errno) {
	t.Helper()
	if p, at, e := pack.Program(k); e != want || at != wantAt || !sameProgram(p, api.Program{}) {
		t.Errorf("Program(%s): %s, %d, %v; want %d, %v", told(k), listed(p), at, e, wantAt, want)
	}
}

// wantWrong wants a program to be refused by both calls that take one.
func wantWrong(t *testing.T, p api.Program, wantAt int, want api.Errno) {
	t.Helper()
	if at, e := pack.Check(p); e != want || at != wantAt {
		t.Errorf("Check(%s): %d, %v; want %d, %v", listed(p), at, e, wantAt, want)
	}
	if k, at, e := pack.Of(p); e != want || at != wantAt || !samePack(k, api.Pack{}) {
		t.Errorf("Of(%s): %s, %d, %v; want %d, %v", listed(p), told(k), at, e, wantAt, want)
	}
}

// second is the container of the chapter's second example.
func second() api.Pack {
	return api.Pack{Lo: 1, Hi: 1, Data: []byte{7}, Tables: []api.Table{table(2, 3)}, Code: raw(exit)}
}

// TestExamples (P12.1 to P12.4): the chapter's examples, with their sums as they were worked out by hand.
func TestExamples(t *testing.T) {
	first := raw("57 50 4b 31, 01 04 00 00, 00 00 09 00, 02 c6 c5 c6")
	wantBoth(t, bounded(0, 9), "57 50 4b 31, 01 04 00 00, 00 00 09 00")
	wantRead(t, first, bounded(0, 9))
	wantBoth(t, second(), "57 50 4b 31, 01 04 00 00 01 00 01 00, 02 02 00 00 02 03, 03 01 00 00 07, 04 08 00 00 95 00 00 00 00 00 00 00")
	wantRead(t, raw("57 50 4b 31, 01 04 00 00 01 00 01 00, 02 02 00 00 02 03, 03 01 00 00 07, 04 08 00 00 95 00 00 00 00 00 00 00, 94 37 44 d8"), second())
	wantUnwritten(t, bounded(2, 1), api.ErrLens)
	wantUnwritten(t, bounded(0, 65536), api.ErrLens)
	wantUnwritten(t, api.Pack{Tables: []api.Table{table(0, 1)}}, api.ErrTable)
	wantUnwritten(t, api.Pack{Data: make([]byte, 4097)}, api.ErrData)
	wantUnwritten(t, api.Pack{Code: make([]byte, 131072)}, api.ErrLong)
	wantBad(t, nil, 0, api.ErrPack)
	wantBad(t, raw("57 50 4b 31"), 4, api.ErrPack)
	wantBad(t, make([]byte, 8), 0, api.ErrPack)
	wantBad(t, raw("57 50 4b 31 00 00 00 00"), 4, api.ErrSum)
	for _, other := range []byte{1, 8, 10, 255} {
		b := bytes.Clone(first)
		b[8] = other
		wantBad(t, b, 12, api.ErrSum)
	}
	wantProgram(t, second(), api.Program{Lo: 1, Hi: 1, Data: []byte{7}, Tables: []api.Table{table(2, 3)}, Code: []api.Ins{leave()}})
	wantNone(t, coded("95 00 00"), 0, api.ErrShort)
	wantNone(t, coded(""), 0, api.ErrNoIns)
	wantNone(t, api.Pack{Data: []byte{7}, Code: raw("18 60 00 00 00 00 00 00, 00 00 00 00 02 00 00 00", exit)}, 0, api.ErrData)
	wantWrong(t, program(leave(), data(1)), 1, api.ErrData)
}

// TestWhole (P12.1, P12.2): the container of the tenth example of the whole.
func TestWhole(t *testing.T) {
	k := coded(exit)
	wantBoth(t, k, "57504b3101040000000009000408000095000000000000 00")
	wantRead(t, raw("57504b3101040000000009000408000095000000000000008b746366"), k)
}
