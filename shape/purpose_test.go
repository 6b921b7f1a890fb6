package shape_test

import (
	"math"
	"math/rand"
	"testing"

	"warrant/api"
	"warrant/mach"
	"warrant/shape"
)

// sample is a shape, and a state that is of it with some ghosts.
type sample struct {
	s      *shape.Shape
	st     api.State
	ghosts []int
}

// dice draws states and shapes; the fewer the variables of bounds the more these have to do with one another.
type dice struct {
	*rand.Rand
	among []int
	far   int // of so many numbers about one is near a limit; of none, if it is 0
}

func (d dice) one(of int) bool { return of > 0 && d.Intn(of) == 0 }

func (d dice) number() int {
	if d.one(d.far) {
		return []int{most, -most, most / 2, -most / 2, most - d.Intn(9), d.Intn(9) - most, math.MaxInt - d.Intn(9), math.MinInt + d.Intn(9)}[d.Intn(8)]
	}
	return max(0, d.Intn(9)-4)
}

// value is a number, a pointer or nothing.
func (d dice) value() api.Value {
	a := api.Value{Kind: []int{api.KindNone, api.KindNum, api.KindNum, api.KindNum, api.KindStack, api.KindCtx, api.KindData, api.KindRow, api.KindRow}[d.Intn(9)]}
	if a.Kind == api.KindRow {
		a.Table, a.Row = d.Intn(2), d.Intn(3)
	}
	if a.Kind != api.KindNone {
		a.X = d.number()
	}
	return a
}

// slot is a pointer, or bytes of which some, all or none were written.
func (d dice) slot() api.Slot {
	var s api.Slot
	switch a := d.value(); a.Kind {
	case api.KindNone:
		s.Mask = []int{0, 1, 15, 240, 254}[d.Intn(5)]
		for k := range s.Bytes {
			if s.Mask>>k&1 == 1 {
				s.Bytes[k] = byte(d.Intn(3))
			}
		}
	case api.KindNum:
		s.Mask = 255
		for k := range s.Bytes {
			s.Bytes[k] = byte(a.X >> (8 * k))
		}
	default:
		s.Ptr = a
	}
	return s
}

// state is any state, and ghosts.
func (d dice) state() (api.State, []int) {
	st, ghosts := api.State{Ctx: make([]byte, d.Intn(5))}, quiet()
	for n := range st.Regs {
		st.Regs[n] = d.value()
	}
	for n := range st.Stack {
		st.Stack[n] = d.slot()
	}
	for n := range ghosts {
		ghosts[n] = d.number()
	}
	return st, ghosts
}

// tagFor is a tag that suits what a register, or a slot with so many bytes written, holds.
func (d dice) tagFor(a api.Value, written int) api.Tag {
	null := a.X == 0 && (a.Kind == api.KindNum || a.Kind == api.KindRow)
	table := a.Table
	if a.Kind == api.KindNum {
		table = d.Intn(2)
	}
	switch {
	case d.Intn(6) == 0:
		return mask(written & d.Intn(256))
	case null && d.Intn(4) == 0:
		return maybe(table)
	case a.Kind == api.KindNone:
		return mask(written)
	}
	return api.Tag{Kind: a.Kind, Table: a.Table}
}

// around is a claim that a state meets, with these ghosts: its bounds are often reached.
func (d dice) around(st api.State, ghosts []int) api.Claim {
	var k reckoned
	for n, a := range st.Regs[:10] {
		k.tag[2+n] = d.tagFor(a, 0)
	}
	for n, s := range st.Stack {
		a := s.Ptr
		if s.Mask == 255 {
			a = number(int(numberOf(st, ghosts, 12+n).Int64()))
		}
		k.tag[12+n] = d.tagFor(a, s.Mask)
	}
	c := k.claim()
	for range d.Intn(12) {
		i, j := d.among[d.Intn(len(d.among))], d.among[d.Intn(len(d.among))]
		a, b := numberOf(st, ghosts, i), numberOf(st, ghosts, j)
		if less := a.Sub(a, b); i != j && less.IsInt64() && k.hasValue(i) && k.hasValue(j) {
			if n := int(less.Int64()) + max(0, d.Intn(6)-3); n >= -most && n <= most {
				c.Cons = append(c.Cons, con(i, j, n))
			}
		}
	}
	return c
}

func (d dice) any(t *testing.T) sample {
	t.Helper()
	st, ghosts := d.state()
	s, e := shape.From(d.around(st, ghosts))
	return sample{right(t, s, e), st, ghosts}
}

// looser is a shape that says less than another one, or nearly so.
func (d dice) looser(t *testing.T, s *shape.Shape) *shape.Shape {
	t.Helper()
	k := seen(s)
	for range d.Intn(4) {
		v := d.among[d.Intn(len(d.among))]
		switch a := k.tag[v]; {
		case isSlot(v) && d.Intn(2) == 0:
			k.tag[v] = mask(bits(a) & d.Intn(256))
		case isReg(v) || isSlot(v):
			k.tag[v] = []api.Tag{{}, maybe(a.Table), maybe(0), maybe(1), a}[d.Intn(5)]
		}
	}
	c := k.claim()
	c.Cons = nil
	for _, con := range k.cons() {
		if k.hasValue(con.I) && k.hasValue(con.J) && d.Intn(4) > 0 {
			con.C = min(con.C+d.Intn(2), most)
			c.Cons = append(c.Cons, con)
		}
	}
	o, e := shape.From(c)
	return right(t, o, e)
}

// draws are of several sorts: few variables and many, numbers near and far.
func draws(n int) []dice {
	few := []int{0, 1, x, y, slot2, 43, 44, 59}
	r := rand.New(rand.NewSource(int64(n)))
	return []dice{{Rand: r, among: few}, {Rand: r, among: []int{0, x, y, 43}}, {Rand: r, among: few, far: 6}}
}

// TestNothingTrueIsLost (P9.8): a state goes along with its shape into those in which that lies, and into what it and another one come to, with the same ghosts.
func TestNothingTrueIsLost(t *testing.T) {
	inside, outside := 0, 0
	for n := range 12 {
		for _, d := range draws(n) {
			old := d.any(t)
			for range 60 {
				now := d.any(t)
				wantHolds(t, now.s, now.st, now.ghosts, true)
				wantInside(t, now.s, now.s, true)
				both, wider := now.s.Both(old.s), now.s.Wider(old.s)
				for _, a := range []sample{now, old} {
					wantHolds(t, both, a.st, a.ghosts, true)
					wantHolds(t, wider, a.st, a.ghosts, true)
				}
				for _, o := range []*shape.Shape{d.looser(t, now.s), d.looser(t, both), old.s, both, wider} {
					if now.s.Inside(o) {
						wantHolds(t, o, now.st, now.ghosts, true)
						inside++
					} else {
						outside++
					}
				}
				if d.Intn(3) == 0 {
					now.s = wider
				}
				old = now
			}
		}
	}
	if inside < 1000 || outside < 1000 {
		t.Errorf("%d were inside, %d not", inside, outside)
	}
}

// TestClaimAgain (P9.8): where the zone is closed, the claim of a shape gives its tags and bounds again; that of a dead one a dead one.
func TestClaimAgain(t *testing.T) {
	count := 0
	for n := range 8 {
		for _, d := range draws(n) {
			for range 15 {
				a, b := d.any(t), d.any(t)
				for _, s := range []*shape.Shape{a.s, a.s.Both(b.s), b.s.Wider(a.s)} {
					if k := seen(s); k.isClosed() {
						again, e := shape.From(s.Claim())
						wantLike(t, right(t, again, e), k)
						count++
					}
				}
			}
		}
	}
	if count < 500 {
		t.Errorf("only %d closed shapes were seen", count)
	}
	again, e := shape.From(shape.Dead().Claim())
	wantDead(t, right(t, again, e))
}

// TestBeginning (P9.8): the plain machine's state at its beginning is of the start, with any ghosts; of contexts of another length it is not.
func TestBeginning(t *testing.T) {
	ghosts := quiet()
	for n := range ghosts {
		ghosts[n] = math.MinInt + n
	}
	code := []api.Ins{{Op: api.OpMov, Imm: 1}, {Op: api.OpMov, Dst: 2, Imm: 3}, {Op: api.OpExit}}
	for _, l := range [][2]int{{0, 0}, {0, 3}, {2, 5}, {5, 5}, {0, api.MaxCtx}, {api.MaxCtx, api.MaxCtx}} {
		p := api.Program{Lo: l[0], Hi: l[1], Code: code}
		s, e := shape.Start(p)
		right(t, s, e)
		for _, n := range []int{0, 1, 2, 3, 4, 5, 6, api.MaxCtx - 1, api.MaxCtx} {
			within := l[0] <= n && n <= l[1]
			wide := api.Program{Hi: api.MaxCtx, Code: code}
			m, e := mach.New(wide, api.Input{Ctx: make([]byte, n)})
			if e != api.OK {
				t.Fatal(e)
			}
			st := m.State()
			wantHolds(t, s, st, quiet(), within)
			wantHolds(t, s, st, ghosts, within)
			m.Step()
			m.Step()
			wantHolds(t, s, m.State(), quiet(), within && n == 3)
		}
	}
}
