package deed_test

import (
	"bytes"
	"fmt"
	"math/rand"
	"slices"
	"strings"
	"testing"

	"warrant/api"
	"warrant/deed"
)

// dice draws deeds, bytes and programs; about one number of wrong (0: none) is none that there may be.
type dice struct {
	*rand.Rand
	wrong int
}

func (d dice) one(of int) bool { return of > 0 && d.Intn(of) == 0 }

// number is one from least to most, often at its ends, and seldom beyond them.
func (d dice) number(least, most int) int {
	switch {
	case d.one(d.wrong):
		return []int{least - 1, most + 1}[d.Intn(2)]
	case d.one(6):
		return []int{least, most}[d.Intn(2)]
	case most-least > 1000:
		return max(least, min(most, (d.Intn(1<<9)-1<<8)<<d.Intn(40)))
	}
	return least + d.Intn(most-least+1)
}

func (d dice) tag(slot bool) api.Tag {
	if d.Intn(3) > 0 && !d.one(d.wrong) {
		return api.Tag{}
	}
	t := kind(d.number(0, 6))
	if t.Kind > 4 || d.one(d.wrong) {
		t.Table = d.number(0, 7)
	}
	if slot && t.Kind == 0 || d.one(d.wrong) {
		t.Mask = d.number(0, 255)
	}
	return t
}

func (d dice) cons(n int) []api.Con {
	var l []api.Con
	for range n {
		l = append(l, con(d.number(0, 59), d.number(0, 59), d.number(-most, most)))
	}
	if d.wrong > 0 && d.one(20) {
		return l
	}
	pair := func(a, b api.Con) int { return slices.Compare([]int{a.I, a.J}, []int{b.I, b.J}) }
	slices.SortFunc(l, pair)
	l = slices.CompactFunc(l, func(a, b api.Con) bool { return pair(a, b) == 0 })
	return slices.DeleteFunc(l, func(c api.Con) bool { return c.I == c.J })
}

func (d dice) claim() api.Claim {
	if d.one(5) && !d.one(d.wrong) {
		return dead()
	}
	var c api.Claim
	c.Dead = d.one(d.wrong)
	for n := range c.Regs {
		c.Regs[n] = d.tag(false)
	}
	for n := range c.Stack {
		c.Stack[n] = d.tag(true)
	}
	c.Cons = d.cons(d.Intn(6))
	if d.one(30) {
		c.Cons = d.cons(d.Intn(300))
	}
	return c
}

func (d dice) deed() api.Deed {
	var whole api.Deed
	for range d.Intn(4) {
		whole.Loops = append(whole.Loops, rank(d.number(0, 511), d.number(0, 59), d.number(0, 59), d.number(-most, most), d.number(0, most)))
	}
	for range d.Intn(4) {
		whole.Claims = append(whole.Claims, d.claim())
	}
	if d.one(30) {
		whole.Claims = slices.Repeat(whole.Claims, 1+d.Intn(170+d.wrong))
	}
	return whole
}

// turned is bytes in which something is another way: one of them, or a piece that is gone, or there twice.
func (d dice) turned(b []byte) []byte {
	b = slices.Clone(b)
	for range d.Intn(3) {
		if len(b) == 0 {
			break
		}
		at := d.Intn(len(b))
		switch d.Intn(6) {
		case 0:
			b[at] = []byte{0, 1, 5, 6, 7, 31, 32, 59, 60, 127, 128, 255}[d.Intn(12)]
		case 1:
			b[at] ^= 1 << d.Intn(8)
		case 2:
			b = b[:at]
		case 3:
			b = append(b, b[at:]...)
		case 4:
			b = slices.Delete(b, at, at+1)
		case 5:
			b = slices.Insert(b, at, byte(d.Intn(256)))
		}
	}
	return b
}

// TestEncodeWhole (P11.1 to P11.4): drawn deeds, plain and not, held against the chapter's words.
func TestEncodeWhole(t *testing.T) {
	met := map[api.Errno]int{}
	for n := range 6000 {
		d := dice{rand.New(rand.NewSource(int64(n))), []int{0, 300, 40}[n%3]}.deed()
		want, f := reckonEncode(d)
		b, e := deed.Encode(d)
		if e != f || !bytes.Equal(b, want) {
			t.Fatalf("%s\nis %s, %v; want %s, %v", told(d), cut(b), e, cut(want), f)
		}
		met[e]++
	}
	for _, e := range []api.Errno{api.OK, api.ErrLoop, api.ErrDead, api.ErrKind, api.ErrCons, api.ErrOrder} {
		if met[e] < 20 {
			t.Errorf("%v was met %d times", e, met[e])
		}
	}
}

func wantAsReckoned(t *testing.T, b []byte) (api.Deed, api.Errno) {
	t.Helper()
	want, place, f := reckonDecode(b)
	d, at, e := deed.Decode(b)
	if e != f || at != place || !same(d, want) {
		t.Fatalf("%s\nis %s, %d, %v; want %s, %d, %v", cut(b), told(d), at, e, told(want), place, f)
	}
	return d, e
}

// TestDecodeWhole (P11.5): the bytes of drawn deeds, turned, held against the chapter's words.
func TestDecodeWhole(t *testing.T) {
	met := map[api.Errno]int{}
	for n := range 9000 {
		r := dice{rand.New(rand.NewSource(int64(n))), []int{0, 0, 60}[n%3]}
		_, e := wantAsReckoned(t, r.turned(reckonBytes(r.deed())))
		met[e]++
	}
	for _, e := range []api.Errno{api.OK, api.ErrDeed, api.ErrLoop, api.ErrCount, api.ErrKind, api.ErrCons, api.ErrOrder} {
		if met[e] < 20 {
			t.Errorf("%v was met %d times", e, met[e])
		}
	}
}

// TestEachByte (P11.5, P11.7): of drawn deeds' bytes each one turned into each other one, each place cut, and a byte put in everywhere.
func TestEachByte(t *testing.T) {
	for n := range 12 {
		r := dice{rand.New(rand.NewSource(int64(n))), 0}
		d := r.deed()
		d.Claims = d.Claims[:min(2, len(d.Claims))]
		whole := reckonBytes(d)
		whole = whole[:min(400, len(whole))]
		for at := range whole {
			b := slices.Clone(whole)
			for v := range 256 {
				b[at] = byte(v)
				if d, e := wantAsReckoned(t, b); e == api.OK {
					wantSame(t, d, b)
				}
			}
			wantAsReckoned(t, whole[:at])
			wantAsReckoned(t, slices.Delete(slices.Clone(whole), at, at+1))
			wantAsReckoned(t, slices.Insert(slices.Clone(whole), at, byte(r.Intn(256))))
		}
	}
}

// wantSame: a deed is written as these bytes.
func wantSame(t *testing.T, d api.Deed, want []byte) {
	t.Helper()
	if b, e := deed.Encode(d); e != api.OK || !bytes.Equal(b, want) {
		t.Fatalf("%s\nis %s, %v; want %s", told(d), cut(b), e, cut(want))
	}
}

// text is a program with some loops in one another and beside each other, each of which is left from its head.
func (d dice) text() string {
	var l []string
	loops := d.Intn(9)
	var part func(deep int)
	part = func(deep int) {
		for range 1 + d.Intn(3) {
			if loops == 0 || deep == 0 || d.Intn(3) == 0 {
				l = append(l, "r0 += 1")
				continue
			}
			loops--
			n := len(l)
			l = append(l, fmt.Sprintf("t%d: if r0 == 9 goto o%d", n, n))
			part(deep - 1)
			l = append(l, fmt.Sprintf("goto t%d", n), fmt.Sprintf("o%d: r0 = 1", n))
		}
	}
	part(4)
	return strings.Join(append(l, "exit"), "\n")
}

// fitting is a deed that mostly fits a program.
func (d dice) fitting(p thing) api.Deed {
	whole := p.suited()
	around := p.f.Loops()
	for n := range whole.Loops {
		l := &whole.Loops[n]
		l.A, l.B, l.K, l.D = d.number(0, 20), d.number(21, 43), d.number(-most, most), d.number(1, most)
		if d.one(d.wrong) {
			l.Head = d.Intn(len(p.f.Blocks()))
		}
	}
	for n := range whole.Claims {
		c := &whole.Claims[n]
		if c.Dead = d.one(5); c.Dead && !d.one(d.wrong) {
			continue
		}
		for k := range 10 {
			c.Regs[k] = d.fit(false, len(p.p.Tables))
		}
		for k := range 32 {
			c.Stack[k] = d.fit(true, len(p.p.Tables))
		}
		own := []int{0, 1}
		if d.wrong > 0 && d.one(40) {
			own = append(own, 60)
		}
		for v := 2; v < 44; v++ {
			if t := append(c.Regs[:], c.Stack[:]...)[v-2]; t.Kind > 0 && t.Kind < 6 || d.one(d.wrong) {
				own = append(own, v)
			}
		}
		for h := range 8 {
			if d.one(d.wrong) || h < len(around) && slices.Contains(around[h].Blocks, n) && (around[h].Head != n || d.one(d.wrong)) {
				own = append(own, 44+2*h, 45+2*h)
			}
		}
		for range d.Intn(6) {
			i, j := own[d.Intn(len(own))], own[d.Intn(len(own))]
			if i != j || d.one(d.wrong) {
				c.Cons = append(c.Cons, con(i, j, d.number(-1, most)))
			}
		}
	}
	return whole
}

// fit is a tag, mostly one of a program with so many tables.
func (d dice) fit(slot bool, tables int) api.Tag {
	t := dice{d.Rand, 20 * d.wrong}.tag(slot)
	if t.Kind > 4 && t.Kind < 7 && t.Table >= tables && !d.one(d.wrong) {
		return num()
	}
	return t
}

// TestCheckWhole (P11.6): drawn deeds of drawn programs, held against the chapter's words.
func TestCheckWhole(t *testing.T) {
	met := map[api.Errno]int{}
	for n := range 3000 {
		r := dice{rand.New(rand.NewSource(int64(n))), []int{0, 300, 100}[n%3]}
		p := programmed(t, r.text(), r.Intn(9))
		d := r.fitting(p)
		place, f := p.reckonCheck(d)
		p.want(t, d, place, f)
		met[f]++
	}
	for _, e := range []api.Errno{api.OK, api.ErrLoop, api.ErrKind, api.ErrCons, api.ErrVoid, api.ErrVar, api.ErrGhost} {
		if met[e] < 20 {
			t.Errorf("%v was met %d times", e, met[e])
		}
	}
}
