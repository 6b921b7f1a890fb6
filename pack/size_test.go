package pack_test

import (
	"fmt"
	"math"
	"slices"
	"testing"

	"warrant/api"
	"warrant/pack"
)

// instructed is the program of a container's sizes, with these instructions.
func instructed(k api.Pack, l ...api.Ins) api.Program {
	return api.Program{Lo: k.Lo, Hi: k.Hi, Data: k.Data, Tables: k.Tables, Code: l}
}

// wantSizes wants all calls to take sizes, or to tell their error, whatever there is for code.
func wantSizes(t *testing.T, k api.Pack, want api.Errno) {
	t.Helper()
	if want == api.OK {
		k.Code = raw(exit)
		wantProgram(t, k, instructed(k, leave()))
		b, e := pack.Encode(k)
		if e != api.OK {
			t.Errorf("Encode(%s): %v", told(k), e)
			return
		}
		wantRead(t, b, k)
		return
	}
	for _, bytes := range [][]byte{nil, raw(exit), raw("95 00"), make([]byte, api.MaxPack+1)} {
		k.Code = bytes
		wantUnwritten(t, k, want)
		wantNone(t, k, 0, want)
	}
	for _, l := range [][]api.Ins{nil, {leave()}, {leave(), {}}, {leave(), data(9999)}, make([]api.Ins, api.MaxIns+1)} {
		wantWrong(t, instructed(k, l...), 0, want)
	}
}

// TestLens (P12.1, P12.3, P12.4): lengths at their ends, beside them, and far off.
func TestLens(t *testing.T) {
	for _, l := range [][2]int{{0, 0}, {0, 1}, {1, 1}, {0, 255}, {255, 256}, {256, 256}, {0, 65535}, {65534, 65535}, {65535, 65535}, {4660, 22136}} {
		wantSizes(t, bounded(l[0], l[1]), api.OK)
	}
	wrong := [][2]int{
		{-1, 0}, {-1, -1}, {0, -1}, {-1, 65535}, {1, 0}, {10, 9}, {65535, 65534}, {0, 65536}, {65535, 65536}, {65536, 65536}, {65536, 65535}, {65536, 0}, {-65536, 9}, {1 << 32, 1<<32 + 9},
		{math.MinInt, 0}, {math.MinInt, math.MinInt}, {math.MinInt, math.MaxInt}, {0, math.MinInt}, {0, math.MaxInt}, {math.MaxInt, 0}, {math.MaxInt, math.MaxInt}, {math.MaxInt, math.MinInt},
	}
	for _, l := range wrong {
		wantSizes(t, bounded(l[0], l[1]), api.ErrLens)
	}
}

// TestTables (P12.1, P12.3, P12.4): so many tables, and what each of them may have.
func TestTables(t *testing.T) {
	for n := range 9 {
		wantSizes(t, api.Pack{Hi: 1, Tables: tables(n)}, api.OK)
	}
	for _, n := range []int{9, 10, 16, 127, 128, 256, 257, 70000} {
		wantSizes(t, api.Pack{Hi: 1, Tables: tables(n)}, api.ErrTable)
	}
	for at := range 8 {
		for _, n := range []int{1, 2, 63, 64} {
			wantTable(t, at, table(n, 1), api.OK)
			wantTable(t, at, table(1, n), api.OK)
			wantTable(t, at, table(n, n), api.OK)
		}
		for _, n := range []int{0, -1, 65, 128, 255, 256, 257, 1 << 32, 1<<32 + 1, -255, math.MinInt, math.MaxInt} {
			wantTable(t, at, table(n, 1), api.ErrTable)
			wantTable(t, at, table(64, n), api.ErrTable)
			wantTable(t, at, table(n, n), api.ErrTable)
		}
	}
}

func wantTable(t *testing.T, at int, one api.Table, want api.Errno) {
	t.Helper()
	for n := at + 1; n <= 8; n += 3 {
		l := tables(n)
		l[at] = one
		wantSizes(t, api.Pack{Lo: 3, Hi: 4, Tables: l}, want)
	}
}

// TestData (P12.1, P12.3, P12.4): so many bytes of data.
func TestData(t *testing.T) {
	for _, n := range []int{0, 1, 2, 255, 256, 257, 4095, 4096} {
		wantSizes(t, api.Pack{Hi: 1, Data: slices.Repeat([]byte{0xa5}, n)}, api.OK)
	}
	for _, n := range []int{4097, 4098, 8192, 65536, 1 << 24, 1<<24 + 1} {
		wantSizes(t, api.Pack{Hi: 1, Data: make([]byte, n)}, api.ErrData)
	}
}

// flaw is something wrong with sizes, at its place in the chapter's order.
type flaw struct {
	order int
	e     api.Errno
	put   func(*api.Pack)
}

func sizeFlaws() []flaw {
	return []flaw{
		{1, api.ErrLens, func(k *api.Pack) { k.Lo = -1 }},
		{1, api.ErrLens, func(k *api.Pack) { k.Lo = k.Hi + 1 }},
		{1, api.ErrLens, func(k *api.Pack) { k.Hi = api.MaxCtx + 1 }},
		{2, api.ErrTable, func(k *api.Pack) { k.Tables = append(k.Tables, tables(8)...) }},
		{2, api.ErrTable, func(k *api.Pack) { k.Tables[0].Rows = 0 }},
		{2, api.ErrTable, func(k *api.Pack) { k.Tables[2].Rows = 65 }},
		{2, api.ErrTable, func(k *api.Pack) { k.Tables[1].Wide = 0 }},
		{2, api.ErrTable, func(k *api.Pack) { k.Tables[0].Wide = 65 }},
		{3, api.ErrData, func(k *api.Pack) { k.Data = make([]byte, api.MaxData+1) }},
		{4, api.ErrLong, func(k *api.Pack) { k.Code = make([]byte, api.MaxPack) }},
	}
}

// TestTwoSizes (P12.1, P12.3, P12.4): each flaw by itself, and each two of them: the first of the chapter's order is told.
func TestTwoSizes(t *testing.T) {
	l := sizeFlaws()
	for _, a := range l {
		for _, b := range l {
			k := api.Pack{Lo: 2, Hi: 5, Tables: tables(3), Data: []byte{1, 2}, Code: raw(exit)}
			a.put(&k)
			b.put(&k)
			first := a
			if b.order < a.order {
				first = b
			}
			t.Run(fmt.Sprint(first.e), func(t *testing.T) {
				wantUnwritten(t, k, first.e)
				if first.e == api.ErrLong { // a container's bytes: no matter of a program
					return
				}
				wantSizes(t, k, first.e)
			})
		}
	}
}
