package deed_test

import (
	"slices"
	"strings"
	"testing"

	"warrant/api"
)

// written is a number as the chapter has it.
type written struct {
	n     int
	bytes string
}

func numbers() []written {
	return []written{
		{0, "00"}, {1, "01"}, {5, "05"}, {126, "7e"}, {127, "7f"}, {128, "80 01"}, {129, "81 01"}, {255, "ff 01"}, {256, "80 02"}, {511, "ff 03"}, {16383, "ff 7f"},
		{16384, "80 80 01"}, {16385, "81 80 01"}, {2097151, "ff ff 7f"}, {2097152, "80 80 80 01"}, {1<<28 - 1, "ff ff ff 7f"}, {1 << 28, "80 80 80 80 01"},
		{1<<35 - 1, "ff ff ff ff 7f"}, {1 << 35, "80 80 80 80 80 01"}, {1<<40 - 1, "ff ff ff ff ff 1f"}, {1 << 40, "80 80 80 80 80 20"},
	}
}

func signed() []written {
	return []written{
		{0, "00"}, {-1, "01"}, {1, "02"}, {-2, "03"}, {2, "04"}, {62, "7c"}, {-63, "7d"}, {63, "7e"}, {-64, "7f"}, {64, "80 01"}, {-65, "81 01"}, {65, "82 01"}, {100, "c8 01"},
		{8191, "fe 7f"}, {-8192, "ff 7f"}, {8192, "80 80 01"}, {-8193, "81 80 01"}, {1<<20 - 1, "fe ff 7f"}, {-1 << 20, "ff ff 7f"}, {1 << 20, "80 80 80 01"},
		{1<<27 - 1, "fe ff ff 7f"}, {-1 << 27, "ff ff ff 7f"}, {1 << 27, "80 80 80 80 01"}, {1<<34 - 1, "fe ff ff ff 7f"}, {-1 << 34, "ff ff ff ff 7f"}, {1 << 34, "80 80 80 80 80 01"},
		{1<<40 - 1, "fe ff ff ff ff 3f"}, {1 - 1<<40, "fd ff ff ff ff 3f"}, {1 << 40, "80 80 80 80 80 40"}, {-1 << 40, "ff ff ff ff ff 3f"},
	}
}

// TestNumbers (P11.2, P11.3): numbers of each count of groups, written and read, wherever one of them may stand.
func TestNumbers(t *testing.T) {
	for _, w := range numbers() {
		wantBoth(t, loops(rank(0, 0, 0, 0, w.n)), mark, "01 00 00 00 00", w.bytes, "00")
		if w.n < 512 {
			wantBoth(t, loops(rank(w.n, 0, 0, 0, 0)), mark, "01", w.bytes, "00 00 00 00 00")
			wantBoth(t, claims(slices.Repeat([]api.Claim{dead()}, w.n)...), mark, "00", w.bytes, strings.Repeat("00", w.n))
		}
		if w.n < 60 {
			wantBoth(t, loops(rank(0, w.n, 0, 0, 0)), mark, "01 00", w.bytes, "00 00 00 00")
			wantBoth(t, loops(rank(0, 0, w.n, 0, 0)), mark, "01 00 00", w.bytes, "00 00 00")
		}
		if w.n < 3540 {
			body := ""
			for _, c := range all(0)[:w.n] {
				body += pair(c.I, c.J) + "00"
			}
			wantBoth(t, claims(claim(all(0)[:w.n]...)), mark, "00 01", bare, "00", w.bytes, body)
		}
	}
}

// pair is two small numbers, a byte each.
func pair(i, j int) string {
	const digits = "0123456789abcdef"
	return string([]byte{digits[i/16], digits[i%16], digits[j/16], digits[j%16]})
}

// TestSigned (P11.2, P11.3): signed numbers of each count of groups, on both sides of 0, as K and as C.
func TestSigned(t *testing.T) {
	for _, w := range signed() {
		wantBoth(t, loops(rank(0, 0, 0, w.n, 0)), mark, "01 00 00 00", w.bytes, "00 00")
		wantBoth(t, claims(claim(con(3, 0, w.n))), mark, "00 01", bare, "00 01 03 00", w.bytes)
		wantBoth(t, claims(claim(con(3, 0, 1), con(4, 0, w.n), con(4, 1, -1))), mark, "00 01", bare, "00 03 03 00 02 04 00", w.bytes, "04 01 01")
	}
}

// TestNumbersEnd (P11.5): what is written in more groups than it needs, and in more than there may be.
func TestNumbersEnd(t *testing.T) {
	// Ahead of the number, behind it, and its error where it is well written but too great.
	places := []struct {
		ahead, behind string
		e             api.Errno
	}{
		{"", "00", api.ErrCount}, {"01", "00 00 00 00 00", api.ErrLoop}, {"01 00", "00 00 00 00", api.ErrLoop}, {"01 00 00", "00 00 00", api.ErrLoop}, {"01 00 00 00", "00 00", api.ErrLoop},
		{"01 00 00 00 00", "00", api.ErrLoop}, {"00", "", api.ErrCount}, {"00 01" + bare, "00", api.ErrCount}, {"00 01" + bare + "00", "", api.ErrCount}, {"00 01" + bare + "00 01 03 00", "", api.ErrCons},
	}
	for _, p := range places {
		for n := range 9 { // so many groups behind which another one follows
			some := strings.Repeat("80", n)
			wantAt(t, api.ErrDeed, mark, p.ahead, some, "^") // the bytes end
			wantAt(t, api.ErrDeed, mark, p.ahead, strings.Repeat("ff", n), "^")
			if n > 0 {
				wantAt(t, api.ErrDeed, mark, p.ahead, "^", some, "00", p.behind)
				wantAt(t, api.ErrDeed, mark, p.ahead, "^", some, "00")
				wantAt(t, api.ErrDeed, mark, p.ahead, "^", strings.Repeat("ff", n), "00", p.behind)
			}
			if n > 5 {
				wantAt(t, p.e, mark, p.ahead, "^", some, "01", p.behind)
				wantAt(t, p.e, mark, p.ahead, "^", strings.Repeat("ff", n), "7f", p.behind)
				wantAt(t, p.e, mark, p.ahead, "^", strings.Repeat("ff", n), "7e")
			}
		}
		for n := 9; n < 12; n++ {
			for _, more := range []string{"80", "ff"} {
				wantAt(t, api.ErrDeed, mark, p.ahead, "^", strings.Repeat(more, n))
				wantAt(t, api.ErrDeed, mark, p.ahead, "^", strings.Repeat(more, n), "00")
				wantAt(t, api.ErrDeed, mark, p.ahead, "^", strings.Repeat(more, n), "01", p.behind)
			}
		}
	}
}
