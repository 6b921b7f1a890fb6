package pack_test

import (
	"bytes"
	"slices"
	"testing"

	"warrant/api"
	"warrant/pack"
)

// TestSections (P12.1, P12.2): each set of sections that there can be.
func TestSections(t *testing.T) {
	for set := range 8 {
		k := bounded(258, 772)
		l := []string{mark, "01 04 00 00, 02 01 04 03"}
		if set&1 > 0 {
			k.Tables = []api.Table{table(64, 1), table(1, 64)}
			l = append(l, "02 04 00 00, 40 01, 01 40")
		}
		if set&2 > 0 {
			k.Data = []byte{0, 255, 4, 1, 2}
			l = append(l, "03 05 00 00, 00 ff 04 01 02")
		}
		if set&4 > 0 {
			k.Code = []byte{9, 0, 0}
			l = append(l, "04 03 00 00, 09 00 00")
		}
		wantBoth(t, k, l...)
	}
}

// TestEmptyLists (R3): what is empty has no section, nil or not.
func TestEmptyLists(t *testing.T) {
	wantBoth(t, api.Pack{Hi: 9, Data: []byte{}, Tables: []api.Table{}, Code: []byte{}}, before)
	wantBoth(t, api.Pack{Hi: 9, Data: make([]byte, 0, 9), Tables: make([]api.Table, 0, 9), Code: make([]byte, 0, 9)}, before)
}

// TestCounts (P12.1, P12.2): numbers of several bytes stand lowest byte first.
func TestCounts(t *testing.T) {
	counts := map[int]string{1: "01 00 00", 254: "fe 00 00", 255: "ff 00 00", 256: "00 01 00", 4096: "00 10 00", 65535: "ff ff 00", 65536: "00 00 01", 66051: "03 02 01", 131052: "ec ff 01"}
	for n, count := range counts {
		body := bytes.Repeat([]byte{0xc3}, n)
		k := api.Pack{Hi: 9, Code: body}
		want := summed(append(raw(before, "04", count), body...))
		if b, e := pack.Encode(k); e != api.OK || !bytes.Equal(b, want) {
			t.Errorf("%d bytes of code: %s, %v; want %s", n, cut(b), e, cut(want))
		}
		wantRead(t, want, k)
	}
	for n := 1; n <= 4096; n *= 2 {
		k := api.Pack{Hi: 9, Data: bytes.Repeat([]byte{byte(n)}, n)}
		want := summed(append(raw(before, "03"), append([]byte{byte(n), byte(n >> 8), 0}, k.Data...)...))
		if b, e := pack.Encode(k); e != api.OK || !bytes.Equal(b, want) {
			t.Errorf("%d bytes of data: %s, %v; want %s", n, cut(b), e, cut(want))
		}
		wantRead(t, want, k)
	}
	for lo := 0; lo <= 65535; lo += 4369 {
		for hi := lo; hi <= 65535; hi += 257 {
			wantRead(t, summed(append(raw(mark, "01 04 00 00"), byte(lo), byte(lo>>8), byte(hi), byte(hi>>8))), bounded(lo, hi))
		}
	}
}

// TestTablesWritten (P12.1, P12.2): tables stand in their order, a byte for each size.
func TestTablesWritten(t *testing.T) {
	all := []api.Table{table(1, 64), table(2, 63), table(3, 62), table(4, 61), table(61, 4), table(62, 3), table(63, 2), table(64, 1)}
	text := []string{"01 40", "02 3f", "03 3e", "04 3d", "3d 04", "3e 03", "3f 02", "40 01"}
	counts := []string{"", "02 00 00", "04 00 00", "06 00 00", "08 00 00", "0a 00 00", "0c 00 00", "0e 00 00", "10 00 00"}
	for n := 1; n <= 8; n++ {
		wantBoth(t, api.Pack{Hi: 9, Tables: all[:n]}, append([]string{before, "02", counts[n]}, text[:n]...)...)
	}
	for n := range 64 {
		wantRead(t, summed(append(raw(before, "02 02 00 00"), byte(n+1), byte(64-n))), api.Pack{Hi: 9, Tables: []api.Table{table(n+1, 64-n)}})
	}
}

// TestLongest (P12.1, P12.2): bytes of just MaxPack, and one more, with each set of sections ahead of the code.
func TestLongest(t *testing.T) {
	for set := range 4 {
		k, room := bounded(0, 9), 131072-20
		if set&1 > 0 {
			k.Tables = tables(8)
			room -= 20
		}
		if set&2 > 0 {
			k.Data = make([]byte, 4096)
			room -= 4100
		}
		k.Code = slices.Repeat([]byte{0x5a}, room)
		b, e := pack.Encode(k)
		if e != api.OK || len(b) != api.MaxPack {
			t.Errorf("%s: %d bytes, %v", told(k), len(b), e)
		}
		wantRead(t, b, k)
		for _, more := range []int{1, 2, 3, 4, 5, 100000, 1 << 24, 1<<24 - room, 1<<24 - room + 7} {
			wantUnwritten(t, api.Pack{Lo: k.Lo, Hi: k.Hi, Data: k.Data, Tables: k.Tables, Code: make([]byte, room+more)}, api.ErrLong)
		}
	}
}

// TestAnyCode (P12.1): a container's code may be any bytes.
func TestAnyCode(t *testing.T) {
	for n := range 256 {
		k := coded()
		k.Code = []byte{byte(n)}
		want := summed(append(raw(before, "04 01 00 00"), byte(n)))
		if b, e := pack.Encode(k); e != api.OK || !bytes.Equal(b, want) {
			t.Errorf("%s: %s, %v", told(k), cut(b), e)
		}
		wantRead(t, want, k)
	}
	wantBoth(t, coded("57 50 4b 31 01 04 00 00"), before, "04 08 00 00 57 50 4b 31 01 04 00 00")
}
