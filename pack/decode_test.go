package pack_test

import (
	"bytes"
	"fmt"
	"strings"
	"testing"

	"warrant/api"
	"warrant/pack"
)

// full is what stands ahead of the sum of a container with all sections, and where these begin and end.
func full() (body []byte, ends []int) {
	body = raw(before, "02 06 00 00, 01 02, 40 40, 03 01", "03 05 00 00, 01 02 03 04 05", "04 09 00 00, 95 00 00 00 00 00 00 00, 01")
	return body, []int{12, 22, 31, 44}
}

// TestFew (P12.2): fewer than 8 bytes, whatever they are.
func TestFew(t *testing.T) {
	body, _ := full()
	for n := range 8 {
		wantBad(t, summed(body)[:n], n, api.ErrPack)
		wantBad(t, make([]byte, n), n, api.ErrPack)
		wantBad(t, raw("ff ff ff ff ff ff ff ff")[:n], n, api.ErrPack)
		if n >= 4 {
			wantBad(t, summed(raw(mark)[:n-4]), n, api.ErrPack)
		}
	}
}

// TestLong (P12.2): more than MaxPack bytes, right ones and wrong ones.
func TestLong(t *testing.T) {
	room := 131072 - 20
	long := append(raw(before, "04 ec ff 01"), make([]byte, room)...)
	wantRead(t, summed(long), api.Pack{Hi: 9, Code: make([]byte, room)})
	longer := append(raw(before, "04 ed ff 01"), make([]byte, room+1)...)
	wantBad(t, summed(longer), 0, api.ErrLong)
	for _, more := range []int{1, 2, 1000, 1 << 20} {
		wantBad(t, make([]byte, api.MaxPack+more), 0, api.ErrLong)
		wantBad(t, append(summed(long), make([]byte, more)...), 0, api.ErrLong)
		wantBad(t, summed(append(raw(mark), make([]byte, api.MaxPack+more)...)), 0, api.ErrLong)
	}
	wantBad(t, make([]byte, api.MaxPack), 0, api.ErrPack) // not too long: its beginning is asked
	wantBad(t, append(raw(mark), make([]byte, api.MaxPack-4)...), api.MaxPack-4, api.ErrSum)
	wantBad(t, summed(append(raw(mark), make([]byte, api.MaxPack-8)...)), 4, api.ErrPack)
}

// TestBeginning (P12.2): other first bytes, with their right sum and with a wrong one.
func TestBeginning(t *testing.T) {
	body, _ := full()
	for at := range 4 {
		for turn := 1; turn < 256; turn++ {
			b := bytes.Clone(body)
			b[at] ^= byte(turn)
			wantBad(t, summed(b), 0, api.ErrPack)
			wantBad(t, summed(b)[:len(b)+3], 0, api.ErrPack)
			wantBad(t, summed(b[:4]), 0, api.ErrPack)
		}
	}
	wantBad(t, summed(raw("31 4b 50 57", lens)), 0, api.ErrPack)
	wantBad(t, summed(raw(lens)), 0, api.ErrPack)
}

// TestWrongSum (P12.2): each bit of a sum turned, a sum in the other order, a sum of all sections but no beginning.
func TestWrongSum(t *testing.T) {
	body, ends := full()
	for _, end := range append(ends, 4) {
		right := summed(body[:end])
		for bit := range 32 {
			b := bytes.Clone(right)
			b[end+bit/8] ^= 1 << (bit % 8)
			wantBad(t, b, end, api.ErrSum)
		}
		b := bytes.Clone(right)
		b[end], b[end+1], b[end+2], b[end+3] = b[end+3], b[end+2], b[end+1], b[end]
		wantBad(t, b, end, api.ErrSum)
		wantBad(t, append(body[:end:end], summed(body[4:end])[end-4:]...), end, api.ErrSum)
		wantBad(t, append(bytes.Clone(right), 0), end+1, api.ErrSum)
	}
	for _, wrong := range []string{"02 04 00 00", "01 04 00 00 09 00 00 00", "01 04", "09", "02 01 00 00 00"} { // ahead of all that the sections may be
		b := summed(raw(mark, wrong))
		b[len(b)-1] ^= 1
		wantBad(t, b, len(b)-4, api.ErrSum)
	}
}

// TestCut (P12.2): bytes cut at every place, with what stands there for a sum, and with their right one.
func TestCut(t *testing.T) {
	body, ends := full()
	whole := summed(body)
	for n := 8; n < len(whole); n++ {
		wantBad(t, whole[:n], n-4, api.ErrSum)
	}
	between := map[int]bool{}
	for _, end := range ends {
		between[end] = true
	}
	for n := 4; n < len(body); n++ {
		b := summed(body[:n])
		if !between[n] {
			wantBad(t, b, n, api.ErrPack)
			continue
		}
		if k, at, e := pack.Decode(b); e != api.OK || at != 0 || k.Hi != 9 {
			t.Errorf("Decode(%s): %s, %d, %v", cut(b), told(k), at, e)
		}
	}
}

// TestNoSection (P12.2): nothing stands between the beginning and the sum.
func TestNoSection(t *testing.T) {
	wantUnread(t, api.ErrPack, mark, "^")
}

// TestKinds (P12.2): the kind of the first section, kinds that are none, that fall, that are told twice.
func TestKinds(t *testing.T) {
	for kind := range 256 {
		if kind == 1 {
			continue
		}
		k := fmt.Sprintf("^%02x", kind)
		for _, rest := range []string{"04 00 00, 00 00 09 00", "02 00 00, 01 01", "00 00 00", "ff ff ff", "04 00", ""} {
			wantUnread(t, api.ErrPack, mark, k, rest)
		}
	}
	sections := []string{"", "", "02 02 00 00, 01 01", "03 01 00 00, 09", "04 01 00 00, 95"}
	for last := 1; last <= 4; last++ {
		for kind := range 256 {
			if kind > last && kind <= 4 {
				continue
			}
			k := fmt.Sprintf("^%02x", kind)
			for _, rest := range []string{"04 00 00, 00 00 09 00", "02 00 00, 01 01", "01 00 00, 07", "00 00 00", "ff ff ff", "04", ""} {
				wantUnread(t, api.ErrPack, before, sections[last], k, rest)
				wantUnread(t, api.ErrPack, before, strings.Join(sections[2:last+1], ""), k, rest)
			}
		}
	}
	wantUnread(t, api.ErrPack, before, sections[4], "^", sections[2])
	wantUnread(t, api.ErrPack, before, sections[3], "^", sections[2], sections[4])
	wantUnread(t, api.ErrPack, before, sections[2], "^", sections[2])
	wantUnread(t, api.ErrPack, before, "^", lens)
}

// TestEnds (P12.2): sections that end within their first four bytes, and within their contents.
func TestEnds(t *testing.T) {
	heads := []string{"01 04 00 00", "02 04 00 00", "03 03 00 00", "04 02 01 00"}
	for n, head := range heads {
		ahead := before
		if n == 0 {
			ahead = mark
		}
		b := raw(head)
		for size := 1; size < 4; size++ {
			wantBad(t, summed(append(raw(ahead), b[:size]...)), len(raw(ahead))+size, api.ErrPack)
		}
		contents := int(b[1]) + int(b[2])<<8
		for size := range contents {
			short := append(append(raw(ahead), b...), bytes.Repeat([]byte{1}, size)...)
			wantBad(t, summed(short), len(short), api.ErrPack)
		}
	}
	wantUnread(t, api.ErrPack, before, "04 ff ff ff, 95 00 00 00 00 00 00 00 ^")
	wantUnread(t, api.ErrPack, before, "04 00 00 01, 95 ^")
	wantUnread(t, api.ErrPack, before, "04 00 01 00, 95 ^")
	wantUnread(t, api.ErrPack, before, "04 02 00 00, 95 ^")
}

// TestSizeOfSections (P12.2): each kind's number of bytes at 0, at its right values, and beside them.
func TestSizeOfSections(t *testing.T) {
	for _, n := range []string{"00 00 00", "01 00 00", "02 00 00", "03 00 00", "05 00 00", "06 00 00", "08 00 00", "04 01 00", "04 00 01", "00 04 00", "ff ff ff"} {
		wantUnread(t, api.ErrPack, mark, "01 ^", n, "00 00 09 00 00 00 00 00 00")
		wantUnread(t, api.ErrPack, mark, "01 ^", n)
		wantUnread(t, api.ErrPack, mark, "01 ^", n, "09 00 00 00") // 9 to 0: its number of bytes is asked ahead
	}
	for _, n := range []string{"00 00 00", "01 00 00", "03 00 00", "0f 00 00", "11 00 00", "01 01 00", "01 10 00", "ff ff ff", "01 00 01"} {
		wantUnread(t, api.ErrPack, before, "02 ^", n, strings.Repeat("01", 17))
		wantUnread(t, api.ErrPack, before, "02 ^", n)
	}
	for _, n := range []string{"12 00 00", "14 00 00", "02 01 00", "10 01 00", "00 00 01", "fe ff ff"} {
		wantUnread(t, api.ErrTable, before, "02 ^", n, strings.Repeat("01", 20))
		wantUnread(t, api.ErrTable, before, "02 ^", n, strings.Repeat("00", 18))
		wantUnread(t, api.ErrTable, before, "02 ^", n)
	}
	for n := 1; n <= 8; n++ {
		wantRead(t, summed(raw(before, fmt.Sprintf("02 %02x 00 00", 2*n), strings.Repeat("02 03", n))), api.Pack{Hi: 9, Tables: tables(n)})
	}
	for _, kind := range []string{"03", "04"} {
		for _, rest := range []string{"", "01", "04 01 00 00 95"} {
			wantUnread(t, api.ErrPack, before, kind, "^ 00 00 00", rest)
		}
	}
	for _, n := range []string{"01 10 00", "02 10 00", "00 11 00", "00 00 01", "ff ff ff"} {
		wantUnread(t, api.ErrData, before, "03 ^", n)
		wantUnread(t, api.ErrData, before, "03 ^", n, strings.Repeat("07", 4098))
		wantUnread(t, api.ErrData, before, "02 02 00 00 01 01", "03 ^", n, "00")
	}
	wantRead(t, summed(raw(before, "03 00 10 00", strings.Repeat("07", 4096))), api.Pack{Hi: 9, Data: bytes.Repeat([]byte{7}, 4096)})
	wantRead(t, summed(raw(before, "03 ff 0f 00", strings.Repeat("07", 4095))), api.Pack{Hi: 9, Data: bytes.Repeat([]byte{7}, 4095)})
}

// TestLensRead (P12.2): Lo above Hi, by one and by more, in its low byte and in its high one.
func TestLensRead(t *testing.T) {
	for _, l := range []string{"01 00 00 00", "0a 00 09 00", "00 01 ff 00", "ff ff fe ff", "ff ff 00 00", "00 02 ff 01", "34 13 35 12"} {
		wantUnread(t, api.ErrLens, mark, "01 04 00 00 ^", l)
		wantUnread(t, api.ErrLens, mark, "01 04 00 00 ^", l, "09") // ahead of what follows
		wantUnread(t, api.ErrLens, mark, "01 04 00 00 ^", l, "02 02 00 00 00 00")
	}
	wantRead(t, summed(raw(mark, "01 04 00 00 ff 00 00 01")), bounded(255, 256))
	wantRead(t, summed(raw(mark, "01 04 00 00 ff ff ff ff")), bounded(65535, 65535))
	wantRead(t, summed(raw(mark, "01 04 00 00 00 00 00 00")), bounded(0, 0))
}

// TestTablesRead (P12.2): Rows and Wide at their limits and one past, in the first table and in a later one.
func TestTablesRead(t *testing.T) {
	for at := range 8 {
		for n := at + 1; n <= 8; n++ {
			head := before + fmt.Sprintf("02 %02x 00 00", 2*n)
			ahead, behind := strings.Repeat("40 01", at), strings.Repeat("01 40", n-at-1)
			for _, wrong := range []string{"00", "41", "7f", "80", "81", "c0", "ff"} {
				wantUnread(t, api.ErrTable, head, ahead, "^", wrong, "01", behind)
				wantUnread(t, api.ErrTable, head, ahead, "^", wrong, wrong, behind)
				wantUnread(t, api.ErrTable, head, ahead, "01 ^", wrong, behind)
				wantUnread(t, api.ErrTable, head, ahead, "40 ^", wrong, strings.Repeat("00 00", n-at-1))
				wantUnread(t, api.ErrTable, head, ahead, "40 ^", wrong, behind, "01 02")
				wantUnread(t, api.ErrTable, head, ahead, "40 ^", wrong, behind, "03 ff ff ff")
			}
		}
	}
	for _, right := range []string{"01 01", "40 40", "01 40", "40 01"} {
		b := raw(right)
		wantBoth(t, api.Pack{Hi: 9, Tables: []api.Table{table(int(b[0]), int(b[1]))}}, before, "02 02 00 00", right)
	}
}

// TestTwoInOne (P12.2): two faults in one section: its kind first, then its number of bytes, then whether they are there, then what they say.
func TestTwoInOne(t *testing.T) {
	wantUnread(t, api.ErrPack, mark, "^ 02")
	wantUnread(t, api.ErrPack, before, "^ 01 00 00 00")
	wantUnread(t, api.ErrPack, before, "^ 05 ff ff ff")
	wantUnread(t, api.ErrPack, mark, "01 04 00 ^")
	wantUnread(t, api.ErrPack, before, "03 00 00 ^")
	wantUnread(t, api.ErrPack, before, "03 ff ff ^")
	wantUnread(t, api.ErrPack, mark, "01 ^ 05 00 00 01 00")
	wantUnread(t, api.ErrPack, mark, "01 04 00 00 09 00 00 ^")
	wantUnread(t, api.ErrPack, before, "02 ^ 13 00 00 00 00")
	wantUnread(t, api.ErrTable, before, "02 ^ 12 00 00 00 00")
	wantUnread(t, api.ErrPack, before, "02 06 00 00 00 00 41 ^")
	wantUnread(t, api.ErrData, before, "03 ^ 01 10 00 07")
	wantUnread(t, api.ErrPack, before, "03 00 10 00 07 ^")
	wantUnread(t, api.ErrPack, before, "02 04 00 00 41 01 01 ^") // it ends within the contents, though they begin wrong
}
