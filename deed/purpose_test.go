package deed_test

import (
	"bytes"
	"math/rand"
	"slices"
	"testing"

	"warrant/api"
	"warrant/deed"
)

// TestBack (P11.7): what is written is read as that deed.
func TestBack(t *testing.T) {
	for n := range 3000 {
		d := dice{rand.New(rand.NewSource(int64(n))), 0}.deed()
		b, e := deed.Encode(d)
		if e != api.OK {
			t.Fatalf("%s: %v", told(d), e)
		}
		wantDeed(t, b, d)
	}
}

// TestForth (P11.7): what is read is written as just these bytes, wherever they come from.
func TestForth(t *testing.T) {
	read := 0
	for n := range 20000 {
		r := dice{rand.New(rand.NewSource(int64(n))), 0}
		b, _ := deed.Encode(r.deed())
		b = r.turned(b)
		if d, _, e := deed.Decode(b); e == api.OK {
			wantSame(t, d, b)
			read++
		}
	}
	if read < 5000 {
		t.Errorf("%d of the turned bytes were read", read)
	}
}

// TestShort (P11.7): all of two bytes behind the mark, and seven small ones: what is read of them is written as just these.
func TestShort(t *testing.T) {
	read := 0
	ask := func(l ...int) {
		b := raw(mark)
		for _, n := range l {
			b = append(b, byte(n))
		}
		if d, _, e := deed.Decode(b); e == api.OK {
			wantSame(t, d, b)
			read++
		}
	}
	for n := range 1 << 16 {
		ask(n&255, n>>8)
	}
	for n := range 4096 * 64 {
		ask(n&3, n>>2&7, n>>5&7, n>>8&7, n>>11&7, n>>14&7, n>>17&1)
	}
	if read == 0 {
		t.Error("nothing was read")
	}
}

// TestApart (P11.7): no two plain deeds have the same bytes.
func TestApart(t *testing.T) {
	met := map[string]api.Deed{}
	for n := range 20000 {
		r := dice{rand.New(rand.NewSource(int64(n))), 0}
		d := loops(rank(r.Intn(2), r.Intn(2), r.Intn(2), r.Intn(3)-1, r.Intn(2)))
		if r.Intn(2) == 0 {
			c := claim()
			c.Regs[r.Intn(2)] = kind(r.Intn(7))
			c.Stack[r.Intn(2)] = []api.Tag{{}, mask(1 + r.Intn(2)), num(), row(r.Intn(2)), maybe(r.Intn(2))}[r.Intn(5)]
			c.Cons = [][]api.Con{nil, {con(0, 1, 0)}, {con(1, 0, 0)}, {con(0, 1, -1)}, {con(0, 1, 0), con(1, 0, 0)}}[r.Intn(5)]
			d = claims([][]api.Claim{{c}, {c, dead()}, {dead(), c}}[r.Intn(3)]...)
		}
		b, e := deed.Encode(d)
		if e != api.OK {
			t.Fatalf("%s: %v", told(d), e)
		}
		if other, is := met[string(b)]; is && !same(other, d) {
			t.Fatalf("%s and %s are both %s", told(d), told(other), cut(b))
		}
		met[string(b)] = d
	}
}

// TestCut (P11.8): bytes that are cut anywhere are refused at their end, and with bytes behind them at the first of these.
func TestCut(t *testing.T) {
	for n := range 200 {
		r := dice{rand.New(rand.NewSource(int64(n))), 0}
		b, _ := deed.Encode(r.deed())
		for at := range min(len(b), 3000) {
			wantUnread(t, b[:at], at, api.ErrDeed)
		}
		for range 20 {
			behind := make([]byte, 1+r.Intn(20))
			r.Read(behind)
			wantUnread(t, slices.Concat(b, behind), len(b), api.ErrDeed)
			wantUnread(t, slices.Concat(b, b), len(b), api.ErrDeed)
		}
	}
}

// TestCutLong (P11.8): of the longest warrant, and of one byte fewer: what is behind them is too long where there are more bytes than may be.
func TestCutLong(t *testing.T) {
	b, e := deed.Encode(heavy(t, api.MaxDeed))
	if e != api.OK || len(b) != api.MaxDeed {
		t.Fatalf("%d bytes, %v", len(b), e)
	}
	for _, at := range []int{0, 5, 12345, api.MaxDeed / 2, api.MaxDeed - 2, api.MaxDeed - 1} {
		wantUnread(t, b[:at], at, api.ErrDeed)
	}
	wantUnread(t, append(bytes.Clone(b), 0), 0, api.ErrLong)
	b, e = deed.Encode(heavy(t, api.MaxDeed-1))
	if e != api.OK || len(b) != api.MaxDeed-1 {
		t.Fatalf("%d bytes, %v", len(b), e)
	}
	wantUnread(t, append(bytes.Clone(b), 0), len(b), api.ErrDeed)
	wantUnread(t, append(bytes.Clone(b), 0, 0), 0, api.ErrLong)
}
