package deed_test

import (
	"bytes"
	"math"
	"math/rand"
	"slices"
	"sync"
	"testing"

	"warrant/api"
	"warrant/deed"
)

// full is a deed with something of all that there can be, and room behind its lists.
func full() api.Deed {
	d := api.Deed{Loops: make([]api.Loop, 0, 5), Claims: make([]api.Claim, 0, 9)}
	d.Loops = append(d.Loops, rank(1, 3, 0, -1, 1), rank(3, 0, 43, most, most))
	for range 7 {
		c := api.Claim{Regs: regs(num(), row(0), maybe(1), kind(api.KindCtx)), Stack: tags{3: num(), 9: mask(7), 31: row(1)}.stack(), Cons: make([]api.Con, 0, 9)}
		c.Cons = append(c.Cons, con(0, 1, 5), con(2, 3, -300), con(5, 43, 70000))
		d.Claims = append(d.Claims, c)
	}
	d.Claims[6] = dead()
	d.Claims[4].Cons = append(d.Claims[4].Cons, con(44, 0, 1), con(47, 0, 1))
	return d
}

// whole is a copy of a deed with all the room behind its lists.
func whole(d api.Deed) api.Deed {
	d.Loops = slices.Clone(d.Loops[:cap(d.Loops)])
	d.Claims = slices.Clone(d.Claims[:cap(d.Claims)])
	for n := range d.Claims {
		d.Claims[n].Cons = slices.Clone(d.Claims[n].Cons[:cap(d.Claims[n].Cons)])
	}
	return d
}

// spoil writes into each list of a deed, and into the room behind it.
func spoil(d api.Deed) {
	for n := range d.Claims[:cap(d.Claims)] {
		c := &d.Claims[:cap(d.Claims)][n]
		for k := range c.Cons[:cap(c.Cons)] {
			c.Cons[:cap(c.Cons)][k] = con(-7, -7, -7)
		}
		*c = api.Claim{Dead: true, Regs: regs(kind(-7)), Cons: c.Cons}
	}
	for n := range d.Loops[:cap(d.Loops)] {
		d.Loops[:cap(d.Loops)][n] = rank(-7, -7, -7, -7, -7)
	}
}

// TestHandedIn (R3): deeds and bytes that are handed in read as before, the room behind them too, and are not kept.
func TestHandedIn(t *testing.T) {
	p := programmed(t, nested, 2)
	d, before := full(), whole(full())
	b, e := deed.Encode(d)
	p.wantFit(t, d)
	if e != api.OK || !same(whole(d), before) {
		t.Fatalf("%v, or a deed that was handed in changed", e)
	}
	want := bytes.Clone(b)
	spoil(d)
	if !bytes.Equal(b, want) {
		t.Error("bytes changed with the deed that was handed in")
	}
	wantBytesKept(t, want)
	for at := range want { // refused ones too
		wantBytesKept(t, want[:at])
	}
	refused := full()
	refused.Claims[5].Cons[1].C = most + 1
	before = whole(refused)
	wantUnwritten(t, refused, api.ErrCons)
	p.want(t, refused, 5, api.ErrCons)
	if !same(whole(refused), before) {
		t.Error("a deed that was refused changed")
	}
}

// wantBytesKept: Decode neither changes bytes, and those behind them, nor keeps them.
func wantBytesKept(t *testing.T, b []byte) {
	t.Helper()
	roomy := append(bytes.Clone(b), 1, 2, 3)
	handed := bytes.Clone(roomy)
	d, at, e := deed.Decode(handed[:len(b)])
	if !bytes.Equal(handed, roomy) {
		t.Fatalf("%s changed", cut(b))
	}
	if e != api.OK {
		return
	}
	clear(handed)
	again, _, _ := deed.Decode(b)
	if at != 0 || !same(d, again) {
		t.Error("a deed changed with the bytes that were handed in")
	}
}

// TestProgramHandedIn (R3, R6): Check changes neither a program nor its flow.
func TestProgramHandedIn(t *testing.T) {
	p := programmed(t, nested, 2)
	p.p.Data = []byte{1, 2, 3}
	code, data, tables := slices.Clone(p.p.Code), slices.Clone(p.p.Data), slices.Clone(p.p.Tables)
	other := programmed(t, nested, 2)
	wrong := full()
	wrong.Claims[6] = claim(con(44, 0, 0))
	for _, d := range []api.Deed{full(), wrong, {}} {
		deed.Check(p.p, p.f, d)
		if !slices.Equal(p.p.Code, code) || !slices.Equal(p.p.Data, data) || !slices.Equal(p.p.Tables, tables) {
			t.Error("a program changed")
		}
		blocks := slices.EqualFunc(p.f.Blocks(), other.f.Blocks(), func(a, b api.Block) bool { return a.From == b.From && a.To == b.To && slices.Equal(a.Next, b.Next) })
		around := slices.EqualFunc(p.f.Loops(), other.f.Loops(), func(a, b api.Around) bool {
			return a.Head == b.Head && a.Parent == b.Parent && slices.Equal(a.Blocks, b.Blocks)
		})
		if !blocks || !around || !slices.Equal(p.f.Order(), other.f.Order()) {
			t.Error("a flow changed")
		}
	}
}

// TestAnswered (R3, R4): what is answered is new each time, the room behind it too, and no two lists of a deed share any.
func TestAnswered(t *testing.T) {
	b, _ := deed.Encode(full())
	c, _ := deed.Encode(full())
	want := bytes.Clone(b)
	clear(c[:cap(c)])
	if !bytes.Equal(b, want) {
		t.Error("two answers of Encode share bytes")
	}
	d, _, _ := deed.Decode(b)
	other, _, _ := deed.Decode(b)
	spoil(other)
	if !same(d, full()) || !bytes.Equal(b, want) {
		t.Error("two answers of Decode share a list")
	}
	for n := range d.Claims {
		lone, _, _ := deed.Decode(b)
		l := lone.Claims[n].Cons
		l = l[:cap(l)]
		for k := range l {
			l[k] = con(-7, -7, -7)
		}
		lone.Claims[n].Cons = full().Claims[n].Cons
		if !same(lone, full()) {
			t.Errorf("the constraints of claim %d are shared", n)
		}
	}
	for _, e := range []api.Deed{{}, {Loops: []api.Loop{}, Claims: []api.Claim{}}} { // nil and an empty list are one
		wantBoth(t, e, mark, "00 00")
	}
}

// TestSideBySide (R4, R6): one deed and one flow may be asked by many at a time, and each is answered the same.
func TestSideBySide(t *testing.T) {
	p := programmed(t, nested, 2)
	d := full()
	b, _ := deed.Encode(d)
	wrong := make([]bool, 8)
	var all sync.WaitGroup
	for n := range wrong {
		all.Go(func() {
			for range 50 {
				c, e := deed.Encode(d)
				back, _, f := deed.Decode(b)
				_, g := deed.Check(p.p, p.f, d)
				_, at, h := deed.Decode(b[:20+n])
				wrong[n] = wrong[n] || e != api.OK || f != api.OK || g != api.OK || h != api.ErrDeed || at != 20+n || !bytes.Equal(b, c) || !same(d, back)
			}
		})
	}
	all.Wait()
	if slices.Contains(wrong, true) {
		t.Error("calls side by side answer otherwise")
	}
}

// odd draws numbers at and beyond all limits.
func odd(r *rand.Rand) int {
	l := []int{math.MinInt, math.MinInt + 1, -1<<60 - 1, -most - 1, -most, -256, -1, 0, 1, 2, 3, 5, 6, 7, 8, 31, 32, 43, 44, 45, 59, 60, 255, 256, 511, 512, most, most + 1, 1 << 60, math.MaxInt - 1, math.MaxInt}
	return l[r.Intn(len(l))]
}

func oddTag(r *rand.Rand) api.Tag { return api.Tag{Kind: odd(r), Table: odd(r), Mask: odd(r)} }

// anything is a deed of which nothing need be right.
func anything(r *rand.Rand, loops, blocks int) api.Deed {
	d := api.Deed{Loops: make([]api.Loop, loops), Claims: make([]api.Claim, blocks)}
	for n := range d.Loops {
		if r.Intn(3) == 0 {
			d.Loops[n] = rank(odd(r), odd(r), odd(r), odd(r), odd(r))
		}
	}
	for n := range d.Claims {
		c := &d.Claims[n]
		c.Dead = r.Intn(9) == 0
		for r.Intn(3) == 0 {
			c.Regs[r.Intn(10)] = oddTag(r)
		}
		for r.Intn(3) == 0 {
			c.Stack[r.Intn(32)] = oddTag(r)
		}
		for r.Intn(2) == 0 {
			c.Cons = append(c.Cons, con(odd(r), odd(r), odd(r)))
		}
	}
	return d
}

// TestAnything (R1): each call ends, and does not panic, at whatever it is handed; a refused one answers its error alone, and the right one.
func TestAnything(t *testing.T) {
	r := rand.New(rand.NewSource(1))
	things := []thing{programmed(t, straight, 0), programmed(t, single, 1), programmed(t, nested, 8), programmed(t, beside, 3)}
	for range 4000 {
		p := things[r.Intn(len(things))]
		d := anything(r, len(p.f.Loops()), len(p.f.Blocks()))
		want, f := reckonEncode(d)
		if b, e := deed.Encode(d); e != f || !bytes.Equal(b, want) {
			t.Fatalf("%s\nis %s, %v; want %s, %v", told(d), cut(b), e, cut(want), f)
		}
		for n, l := range p.f.Loops() {
			if r.Intn(4) > 0 {
				d.Loops[n] = rank(l.Head, 0, 1, 0, 1)
			}
		}
		place, f := p.reckonCheck(d)
		p.want(t, d, place, f)
		deed.Check(api.Program{}, p.f, d) // tables that are not there
		b := make([]byte, r.Intn(40))
		r.Read(b)
		wantAsReckoned(t, b)
		wantAsReckoned(t, append(raw(mark), b...))
		for n := range b {
			b[n] &= 15
		}
		wantAsReckoned(t, append(raw(mark), b...))
	}
}
