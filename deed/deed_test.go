package deed_test

import (
	"bytes"
	"encoding/hex"
	"slices"
	"strings"
	"testing"

	"warrant/api"
	"warrant/deed"
)

const most = api.MaxConst

func con(i, j, c int) api.Con { return api.Con{I: i, J: j, C: c} }

func kind(k int) api.Tag { return api.Tag{Kind: k} }

func num() api.Tag { return kind(api.KindNum) }

func row(table int) api.Tag { return api.Tag{Kind: api.KindRow, Table: table} }

func maybe(table int) api.Tag { return api.Tag{Kind: api.KindMaybe, Table: table} }

func mask(bits int) api.Tag { return api.Tag{Mask: bits} }

func rank(head, a, b, k, d int) api.Loop { return api.Loop{Head: head, A: a, B: b, K: k, D: d} }

// regs are tags of the registers from r0 on; of all others zero.
func regs(l ...api.Tag) (all [10]api.Tag) {
	copy(all[:], l)
	return all
}

// tags are of slots, by their numbers; of all others zero.
type tags map[int]api.Tag

func (l tags) stack() (all [api.Slots]api.Tag) {
	for n, t := range l {
		all[n] = t
	}
	return all
}

func dead() api.Claim { return api.Claim{Dead: true} }

func claim(cs ...api.Con) api.Claim { return api.Claim{Cons: cs} }

func slots(l tags) api.Claim { return api.Claim{Stack: l.stack()} }

func loops(l ...api.Loop) api.Deed { return api.Deed{Loops: l} }

func claims(l ...api.Claim) api.Deed { return api.Deed{Claims: l} }

// raw is bytes that are written in hexadecimal, two signs each.
func raw(l ...string) []byte {
	b, err := hex.DecodeString(strings.ReplaceAll(strings.Join(l, ""), " ", ""))
	if err != nil {
		panic(err)
	}
	return b
}

// The bytes that all warrants begin with; a claim's first byte with ten registers' zero tags; no slot and no constraint.
const (
	mark = "57 41 52 31 "
	bare = "01 00 00 00 00 00 00 00 00 00 00 "
	none = "00 00 "
)

func sameClaim(a, b api.Claim) bool {
	return a.Dead == b.Dead && a.Regs == b.Regs && a.Stack == b.Stack && slices.Equal(a.Cons, b.Cons)
}

func same(a, b api.Deed) bool {
	return slices.Equal(a.Loops, b.Loops) && slices.EqualFunc(a.Claims, b.Claims, sameClaim)
}

func isEmpty(d api.Deed) bool { return len(d.Loops) == 0 && len(d.Claims) == 0 }

func wantBytes(t *testing.T, d api.Deed, want ...string) {
	t.Helper()
	b, e := deed.Encode(d)
	if e != api.OK || !bytes.Equal(b, raw(want...)) {
		t.Errorf("%s\nis % x, %v; want % x", told(d), b, e, raw(want...))
	}
}

func wantUnwritten(t *testing.T, d api.Deed, want api.Errno) {
	t.Helper()
	if b, e := deed.Encode(d); e != want || len(b) != 0 {
		t.Errorf("%s\nis %s, %v; want the error %v alone", told(d), cut(b), e, want)
	}
}

func wantDeed(t *testing.T, b []byte, want api.Deed) {
	t.Helper()
	d, at, e := deed.Decode(b)
	if e != api.OK || at != 0 || !same(d, want) {
		t.Errorf("%s\nis %s, %d, %v; want %s", cut(b), told(d), at, e, told(want))
	}
}

func wantUnread(t *testing.T, b []byte, want int, f api.Errno) {
	t.Helper()
	if d, at, e := deed.Decode(b); e != f || at != want || !isEmpty(d) {
		t.Errorf("%s\nis %s, %d, %v; want the error %v at %d alone", cut(b), told(d), at, e, f, want)
	}
}

// wantBoth: that deed has these bytes, and these bytes are that deed's.
func wantBoth(t *testing.T, d api.Deed, want ...string) {
	t.Helper()
	wantBytes(t, d, want...)
	wantDeed(t, raw(want...), d)
}

// wantAt: bytes in hexadecimal are refused at the one behind the sign ^.
func wantAt(t *testing.T, e api.Errno, l ...string) {
	t.Helper()
	ahead, behind, is := strings.Cut(strings.Join(l, ""), "^")
	if !is {
		t.Fatalf("no place in %s", l)
	}
	wantUnread(t, raw(ahead, behind), len(raw(ahead)), e)
}

// TestErrors: the numbers of the chapter's errors.
func TestErrors(t *testing.T) {
	for e, want := range map[api.Errno]int{
		api.ErrLong: 2, api.ErrKind: 90, api.ErrCons: 91, api.ErrDead: 93, api.ErrDeed: 110, api.ErrOrder: 111, api.ErrCount: 112, api.ErrLoop: 113, api.ErrGhost: 114,
		api.OK: 0, api.ErrVar: 50, api.ErrConst: 51, api.ErrVoid: 92,
	} {
		if int(e) != want {
			t.Errorf("%v; want %d", e, want)
		}
	}
}

// TestExamples: every row of the chapter's examples.
func TestExamples(t *testing.T) {
	wantBoth(t, api.Deed{}, "57 41 52 31 00 00")
	wantBoth(t, loops(rank(1, 3, 0, -1, 1)), "57 41 52 31 01 01 03 00 01 01 00")
	wantBoth(t, claims(dead()), "57 41 52 31 00 01 00")
	wantBoth(t, claims(claim()), "57 41 52 31 00 01 01", strings.Repeat("00", 10), "00", "00")
	wantBoth(t, claims(api.Claim{Regs: regs(kind(0), kind(api.KindCtx), num()), Stack: tags{31: num(), 30: mask(15)}.stack(), Cons: []api.Con{con(3, 0, 100)}}),
		"57 41 52 31 00 01 01", "00 03 01 00 00 00 00 00 00 00", "02 1e 00 0f 1f 01", "01 03 00 c8 01")
	wantUnread(t, raw("57 41 52 31"), 4, api.ErrDeed)
	wantUnread(t, raw("57 41 52 31 09"), 4, api.ErrCount)
	wantUnread(t, raw("57 41 52 31 80 00 00"), 4, api.ErrDeed)
	wantUnread(t, raw("57 41 52 31 00 00 00"), 6, api.ErrDeed)
	wantUnread(t, raw("57 41 52 31 00 01 02"), 6, api.ErrDeed)
}
