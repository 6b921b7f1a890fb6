package deed_test

import (
	"bytes"
	"fmt"
	"strings"
	"testing"

	"warrant/api"
)

// TestReadMark (P11.5): the first four bytes are others, or fewer.
func TestReadMark(t *testing.T) {
	wantUnread(t, nil, 0, api.ErrDeed)
	wantUnread(t, []byte{}, 0, api.ErrDeed)
	for n := range 4 {
		wantUnread(t, raw(mark)[:n], n, api.ErrDeed)
		wantUnread(t, raw("00 00 00")[:min(n, 3)], min(n, 3), api.ErrDeed) // also where they are others
		for _, turned := range []byte{0, 1, 0x20, 0x80, 0xff} {
			b := raw(mark, "00 00")
			b[n] ^= turned
			if turned == 0 {
				wantDeed(t, b, api.Deed{})
				continue
			}
			wantUnread(t, b, 0, api.ErrDeed)
			wantUnread(t, b[:4], 0, api.ErrDeed)
			wantUnread(t, b[:3], 3, api.ErrDeed)
		}
	}
	wantAt(t, api.ErrDeed, "^31 52 41 57 00 00")
	wantAt(t, api.ErrDeed, "^57 41 52 32 09")
	wantAt(t, api.ErrDeed, mark, "^")
}

// TestReadCounts (P11.5): loops, claims, slots and constraints, as many as there may be and one more.
func TestReadCounts(t *testing.T) {
	for n := range 9 {
		wantBoth(t, loops(make([]api.Loop, n)...), mark, fmt.Sprintf("%02x", n), strings.Repeat("00 00 00 00 00", n), "00")
	}
	wantAt(t, api.ErrCount, mark, "^09", strings.Repeat("00 00 00 00 00", 9), "00")
	wantAt(t, api.ErrCount, mark, "^09")
	wantAt(t, api.ErrCount, mark, "^7f")
	wantAt(t, api.ErrCount, mark, "^80 01")
	wantAt(t, api.ErrDeed, mark, "00 80 04", strings.Repeat("00", 511), "^")
	wantAt(t, api.ErrCount, mark, "00 ^81 04", strings.Repeat("00", 513))
	wantAt(t, api.ErrCount, mark, "00 ^81 04")
	wantAt(t, api.ErrCount, mark, "01 00 00 00 00 00 ^81 04")
	whole := tags{}
	body := ""
	for n := range 32 {
		whole[n] = num()
		body += fmt.Sprintf("%02x 01", n)
	}
	wantBoth(t, claims(slots(whole)), mark, "00 01", bare, "20", body, "00")
	wantAt(t, api.ErrCount, mark, "00 01", bare, "^21", body)
	wantAt(t, api.ErrCount, mark, "00 01", bare, "^80 01")
	wantAt(t, api.ErrCount, mark, "00 01", bare, "00 ^d5 1b")
	wantAt(t, api.ErrDeed, mark, "00 01", bare, "00 d4 1b ^")
	body = ""
	for _, c := range all(0) {
		body += pair(c.I, c.J) + "00"
	}
	wantBoth(t, claims(claim(all(0)...)), mark, "00 01", bare, "00 d4 1b", body)
	wantAt(t, api.ErrCount, mark, "00 01", bare, "00 ^d5 1b", body, "3b 3a 00")
	wantAt(t, api.ErrOrder, mark, "00 01", bare, "00 d4 1b", body[:6], "^", body[:6*3539])
}

// TestReadLoops (P11.5): each number of a loop at its ends, and one past them, told ahead of what stands behind it.
func TestReadLoops(t *testing.T) {
	wantBoth(t, loops(rank(511, 59, 59, most, most)), mark, "01 ff 03 3b 3b 80 80 80 80 80 40 80 80 80 80 80 20 00")
	wantBoth(t, loops(rank(0, 0, 0, -most, 0)), mark, "01 00 00 00 ff ff ff ff ff 3f 00 00")
	for _, ahead := range []string{"01", "03 01 03 00 01 01", "08 01 03 00 01 01 01 03 00 01 01"} {
		for _, behind := range []string{"", "00", "80", "3c 3c", "00 00 00 00 00 00 00 00 00 00 00 00 00 00 00 00"} {
			wantAt(t, api.ErrLoop, mark, ahead, "^80 04", behind)
			wantAt(t, api.ErrLoop, mark, ahead, "ff 03 ^3c", behind)
			wantAt(t, api.ErrLoop, mark, ahead, "ff 03 3b ^3c", behind)
			wantAt(t, api.ErrLoop, mark, ahead, "ff 03 3b 3b ^82 80 80 80 80 40", behind)
			wantAt(t, api.ErrLoop, mark, ahead, "ff 03 3b 3b ^81 80 80 80 80 40", behind)
			wantAt(t, api.ErrLoop, mark, ahead, "ff 03 3b 3b 80 80 80 80 80 40 ^81 80 80 80 80 20", behind)
			wantAt(t, api.ErrLoop, mark, ahead, "00 00 00 00 ^80 80 80 80 80 40", behind)
		}
	}
}

// TestReadFirst (P11.5): a claim's first byte is 0 or 1, in any claim.
func TestReadFirst(t *testing.T) {
	for n := range 256 {
		for _, ahead := range []string{"", "00", bare + none} {
			count := map[string]string{"": "01", "00": "02", bare + none: "02"}[ahead]
			first := fmt.Sprintf("%02x", n)
			if n > 1 {
				wantAt(t, api.ErrDeed, mark, "00", count, ahead, "^", first)
				wantAt(t, api.ErrDeed, mark, "00", count, ahead, "^", first, bare)
			}
		}
	}
	wantAt(t, api.ErrDeed, mark, "00 01 00 ^00")
	wantAt(t, api.ErrDeed, mark, "00 01 01 ^")
}

// TestReadTags (P11.5): kinds and tables of each register, at their limits and one past them.
func TestReadTags(t *testing.T) {
	for n := range 10 {
		ahead := mark + "00 01 01" + strings.Repeat("00", n)
		behind := strings.Repeat("00", 9-n) + none
		for k := range 256 {
			first := fmt.Sprintf("%02x", k)
			var c api.Claim
			switch {
			case k < 5:
				c.Regs[n] = kind(k)
				wantBoth(t, claims(c), ahead, first, behind)
			case k < 7:
				wantAt(t, api.ErrDeed, ahead, first, "^")
				for table := range 256 {
					second := fmt.Sprintf("%02x", table)
					if table > 7 {
						wantAt(t, api.ErrKind, ahead, first, "^", second, behind)
						wantAt(t, api.ErrKind, ahead, first, "^", second)
						continue
					}
					c.Regs[n] = api.Tag{Kind: k, Table: table}
					wantBoth(t, claims(c), ahead, first, second, behind)
				}
			default:
				wantAt(t, api.ErrKind, ahead, "^", first, behind)
				wantAt(t, api.ErrKind, ahead, "^", first)
			}
		}
	}
}

// TestReadSlots (P11.5): kinds, tables and masks of slots, at their limits and one past them.
func TestReadSlots(t *testing.T) {
	for _, n := range []int{0, 1, 30, 31} {
		ahead := mark + "00 01" + bare + "01" + fmt.Sprintf("%02x", n)
		wantAt(t, api.ErrDeed, ahead, "^")
		for k := range 256 {
			first := fmt.Sprintf("%02x", k)
			switch {
			case k > 6:
				wantAt(t, api.ErrKind, ahead, "^", first, "00")
				wantAt(t, api.ErrKind, ahead, "^", first)
				continue
			case k > 0 && k < 5:
				wantBoth(t, claims(slots(tags{n: kind(k)})), ahead, first, "00")
				continue
			}
			wantAt(t, api.ErrDeed, ahead, first, "^")
			for v := range 256 {
				second := fmt.Sprintf("%02x", v)
				tag := api.Tag{Kind: k, Table: v}
				if k == 0 {
					tag = mask(v)
				}
				if k == 0 && v == 0 || k > 0 && v > 7 {
					wantAt(t, api.ErrKind, ahead, first, "^", second, "00")
					wantAt(t, api.ErrKind, ahead, first, "^", second)
				} else {
					wantBoth(t, claims(slots(tags{n: tag})), ahead, first, second, "00")
				}
			}
		}
	}
}

// TestReadSlotNumbers (P11.5): slots' numbers rise, and are those of slots.
func TestReadSlotNumbers(t *testing.T) {
	ahead := mark + "00 01" + bare
	for n := range 256 {
		number := fmt.Sprintf("%02x", n)
		if n > 31 {
			wantAt(t, api.ErrKind, ahead, "01 ^", number, "01 00")
			wantAt(t, api.ErrKind, ahead, "01 ^", number)
			wantAt(t, api.ErrKind, ahead, "02 05 01 ^", number, "01 00")
			wantAt(t, api.ErrKind, ahead, "02 1f 01 ^", number, "01 00")
			wantAt(t, api.ErrKind, ahead, "03 05 01 ^", number, "01 04 01 00") // ahead of the next one's ErrOrder
			continue
		}
		if n > 5 {
			wantBoth(t, claims(slots(tags{5: num(), n: row(3)})), ahead, "02 05 01", number, "05 03 00")
		} else {
			wantAt(t, api.ErrOrder, ahead, "02 05 01 ^", number, "05 03 00")
			wantAt(t, api.ErrOrder, ahead, "02 05 01 ^", number)
			wantAt(t, api.ErrOrder, ahead, "02 05 01 ^", number, "07") // ahead of its Kind's ErrKind
			wantAt(t, api.ErrOrder, ahead, "03 05 01 ^", number, "01 20 01 00")
		}
	}
	// Each claim has an order of its own, the slot 0 is one, and slots are not asked of the one ahead of the last.
	wantBoth(t, claims(slots(tags{31: num()}), slots(tags{0: num()})), mark, "00 02", bare, "01 1f 01 00", bare, "01 00 01 00")
	wantAt(t, api.ErrOrder, ahead, "03 05 01 09 01 ^07 01 00")
}

// TestReadCons (P11.5): I, J and C of a constraint, and its place among the others.
func TestReadCons(t *testing.T) {
	one := mark + "00 01" + bare + "00 01"
	two := mark + "00 01" + bare + "00 02 14 1e 05"
	three := mark + "00 01" + bare + "00 03 14 1e 05"
	for n := range 256 {
		v := fmt.Sprintf("%02x", n)
		if n > 59 {
			for _, behind := range []string{"", "00", v, "00 00", "00 82 80 80 80 80 40"} {
				wantAt(t, api.ErrCons, one, "^", v, behind)
				wantAt(t, api.ErrCons, two, "^", v, behind)
			}
			for _, behind := range []string{"", "00", "82 80 80 80 80 40"} {
				wantAt(t, api.ErrCons, one, "3b ^", v, behind)
				wantAt(t, api.ErrCons, two, "00 ^", v, behind) // ahead of ErrOrder
			}
			continue
		}
		wantAt(t, api.ErrCons, one, v, "^", v, "00")
		wantAt(t, api.ErrCons, one, v, "^", v)
		wantAt(t, api.ErrCons, two, v, "^", v, "00") // ahead of ErrOrder
		wantAt(t, api.ErrDeed, one, v, "^")
		wantAt(t, api.ErrDeed, two, v, "^") // also where no J can rise
		for _, w := range []int{0, 29, 30, 31, 59} {
			if w == n {
				continue
			}
			if n > 20 || n == 20 && w > 30 {
				wantBoth(t, claims(claim(con(20, 30, -3), con(n, w, 0))), two, pair(n, w), "00")
				wantAt(t, api.ErrCons, two, pair(n, w), "^82 80 80 80 80 40")
				continue
			}
			for _, behind := range []string{"", "00", "82 80 80 80 80 40", "80 00"} {
				wantAt(t, api.ErrOrder, two, "^", pair(n, w), behind)
				wantAt(t, api.ErrOrder, three, "^", pair(n, w), behind, "3c")
			}
		}
	}
	wantAt(t, api.ErrOrder, three, "16 00 00 ^15 3b 00")
	wantAt(t, api.ErrOrder, two, "^14 1e 05")
}

// TestReadConst (P11.5): C at its ends, and one past them, in the first constraint and behind it.
func TestReadConst(t *testing.T) {
	for _, ahead := range []string{"01 03 00", "02 03 00 00 03 01"} {
		d := claim(con(3, 0, most))
		if ahead != "01 03 00" {
			d = claim(con(3, 0, 0), con(3, 1, most))
		}
		ahead = mark + "00 01" + bare + "00" + ahead
		wantBoth(t, claims(d), ahead, "80 80 80 80 80 40")
		d.Cons[len(d.Cons)-1].C = -most
		wantBoth(t, claims(d), ahead, "ff ff ff ff ff 3f")
		for _, behind := range []string{"", "00", "3c"} {
			wantAt(t, api.ErrCons, ahead, "^82 80 80 80 80 40", behind)
			wantAt(t, api.ErrCons, ahead, "^81 80 80 80 80 40", behind)
			wantAt(t, api.ErrCons, ahead, "^80 80 80 80 80 80 01", behind)
			wantAt(t, api.ErrDeed, ahead, "^80 80 80 80 80 80 00", behind)
		}
	}
}

// TestReadBehind (P11.5): bytes behind the last claim, one and many, whatever they are.
func TestReadBehind(t *testing.T) {
	for _, whole := range []string{"00 00", "01 01 03 00 01 01 00", "00 01 00", "00 01" + bare + none, "00 02 00" + bare + "00 01 03 00 c8 01"} {
		for _, behind := range []string{"00", "01", "ff", "80", bare, mark} {
			wantAt(t, api.ErrDeed, mark, whole, "^", behind)
		}
	}
}

// TestReadLong (P11.5): as many bytes as there may be, and one more: that is told ahead of all else.
func TestReadLong(t *testing.T) {
	wantUnread(t, make([]byte, api.MaxDeed), 0, api.ErrDeed)
	wantUnread(t, make([]byte, api.MaxDeed+1), 0, api.ErrLong)
	b := append(raw(mark, "00 00"), bytes.Repeat([]byte{9}, api.MaxDeed-6)...)
	wantUnread(t, b, 6, api.ErrDeed)
	wantUnread(t, append(b, 9), 0, api.ErrLong)
}
