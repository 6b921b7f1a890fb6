package step_test

import (
	"slices"
	"testing"

	"warrant/api"
	"warrant/mach"
	"warrant/shape"
)

// Assignments, found and drawn without zones.

// numbers is an assignment: a whole number for each variable, 0 for the variable 0.
type numbers [vars]int

func (a *numbers) meets(cs []api.Con) bool {
	for _, c := range cs {
		if a[c.I]-a[c.J] > c.C {
			return false
		}
	}
	return true
}

// solve is an assignment that meets all the Cons; false, if there is none. (Whatever is too great is lowered, at first all are alike; what is still lowered after so many rounds as there are variables goes round in a circle.)
func solve(cs ...api.Con) (numbers, bool) {
	var a numbers
	for range vars + 1 {
		still := true
		for _, c := range cs {
			if a[c.I]-a[c.J] > c.C {
				a[c.I], still = a[c.J]+c.C, false
			}
		}
		if still {
			zero := a[0]
			for v := range a {
				a[v] -= zero
			}
			return a, true
		}
	}
	return numbers{}, false
}

// limited says that all variables are from -2^60 to 2^60.
func limited() []api.Con {
	var l []api.Con
	for v := 1; v < vars; v++ {
		l = append(l, ranged(v, -most, most)...)
	}
	return l
}

// drawn is an assignment that meets all the Cons, at random as far as they leave it open.
func (d dice) drawn(cs []api.Con, linked []int) (numbers, bool) {
	cs = append(limited(), cs...)
	a, is := solve(cs...)
	if !is {
		return a, false
	}
	for range 8 {
		i, j := among(d, linked...), among(d, linked...)
		if more := append(slices.Clone(cs), con(i, j, d.near())); i != j {
			if b, is := solve(more...); is {
				a, cs = b, more
			}
		}
	}
	return a, true
}

// near is a constant within 2^40.
func (d dice) near() int {
	return among(d, d.Intn(30)-20, d.Intn(30)-20, d.Intn(1<<33)-1<<32, d.Intn(1<<41+1)-1<<40, 1<<40, -1<<40)
}

// linear is a shape of numbers, with bounds within 2^40, and the variables that they are of.
func (d dice) linear(t *testing.T) (*shape.Shape, []int) {
	t.Helper()
	vs := []int{0, 1, 44, 59}
	l := tags{}
	for r := range 7 {
		if d.Intn(4) > 0 {
			l[r0+r] = num()
			vs = append(vs, r0+r)
		}
	}
	for {
		cs := ranged(1, 0, 64)
		for range d.Intn(12) {
			if i, j := among(d, vs...), among(d, vs...); i != j {
				cs = append(cs, con(i, j, d.near()))
			}
		}
		if s, e := shape.From(claim(l, cs...)); e == api.OK {
			return s, vs
		}
	}
}

// exactly is an instruction of those by which nothing is lost; false: none over this shape.
func (d dice) exactly(s *shape.Shape) (call, bool) {
	dst, src, imm := d.Intn(7), d.Intn(7), among(d, 0, 1, -1, d.Intn(40)-20, 1<<31-1, -1<<31)
	is := func(r int) bool { return isNum(s.Tag(r0 + r)) }
	second := func(op int) api.Ins {
		if d.Intn(2) == 0 {
			return byImm(op, dst, imm)
		}
		return byReg(op, dst, src)
	}
	switch d.Intn(3) {
	case 0:
		i := second(api.OpMov)
		return doing(s, i), !i.Reg || is(src)
	case 1:
		i, c := byImm(among(d, api.OpAdd, api.OpSub), dst, imm), imm
		if i.Op == api.OpSub {
			c = -imm
		}
		r := s.Span(r0 + dst)
		return doing(s, i), is(dst) && (c <= 0 || !r.NoHi) && (c >= 0 || !r.NoLo)
	}
	i := second(among(d, api.OpJeq, api.OpJsgt, api.OpJsge, api.OpJslt, api.OpJsle))
	i.Off = 1
	return taking(s, i, i.Op == api.OpJeq || d.Intn(2) == 0), is(dst) && (!i.Reg || is(src))
}

// ahead is an assignment of a shape from which the instruction leads to another one; false: there is none.
func (c call) ahead(b numbers) (numbers, bool) {
	v := r0 + c.i.Dst
	switch {
	case c.i.Op == api.OpMov && c.i.Reg && c.i.Src == c.i.Dst:
	case c.i.Op == api.OpMov: // what was there may have been anything
		cs := slices.Concat(limited(), c.s.Cons())
		for w := 1; w < vars; w++ {
			if w != v {
				cs = append(cs, ranged(w, b[w], b[w])...)
			}
		}
		return solve(cs...)
	case c.i.Op == api.OpAdd:
		b[v] -= c.i.Imm
	case c.i.Op == api.OpSub:
		b[v] += c.i.Imm
	}
	return b, b.meets(c.s.Cons())
}

// goes runs the plain machine over the instruction, from a state with these numbers: the state ahead, the one behind, and whether it went the edge.
func (c call) goes(t *testing.T, a numbers) (ahead, behind api.State, is bool) {
	t.Helper()
	exit := api.Ins{Op: api.OpExit}
	p := api.Program{Hi: 64}
	for r := range 10 {
		if isNum(c.s.Tag(r0 + r)) {
			p.Code = append(p.Code, api.Ins{Op: api.OpWide, Dst: r, Imm: a[r0+r]})
		}
	}
	n := len(p.Code)
	p.Code = append(p.Code, c.i, exit, exit)
	m, e := mach.New(p, api.Input{Ctx: make([]byte, a[1])})
	if e != api.OK {
		t.Fatal(e)
	}
	for range n {
		m.Step()
	}
	ahead = m.State()
	if e := m.Step(); e != api.OK {
		t.Fatal(c.told(), e)
	}
	behind = m.State()
	return ahead, behind, !c.edged || c.taken == (behind.At == n+2)
}

// TestNothingIsLost (P10.11): each assignment behind comes from a state ahead, and the plain machine goes from the one to the other.
func TestNothingIsLost(t *testing.T) {
	count := map[int]int{}
	for seed := range 1500 {
		d := rolling(seed)
		s, vs := d.linear(t)
		for range 6 {
			c, is := d.exactly(s)
			if !is {
				continue
			}
			now, e := c.held(t, api.Program{})
			if e != api.OK {
				t.Fatal(c.told(), e)
			}
			if now.Dead() {
				continue
			}
			b, is := d.drawn(now.Cons(), vs)
			if !is { // none is within the limits
				continue
			}
			a, is := c.ahead(b)
			if !is {
				t.Fatalf("%s: %s; from no state comes %v", c.told(), told(now), b)
			}
			ahead, behind, is := c.goes(t, a)
			if !is || !s.Holds(ahead, a[44:]) || !now.Holds(behind, b[44:]) {
				t.Fatalf("%s: %s; from %s the machine goes to %s, %v", c.told(), told(now), shown(ahead, a[44:]), shown(behind, b[44:]), is)
			}
			for r := range 10 {
				if isNum(now.Tag(r0+r)) && behind.Regs[r].X != b[r0+r] {
					t.Fatalf("%s: r%d is %d, and not %d", c.told(), r, behind.Regs[r].X, b[r0+r])
				}
			}
			count[c.i.Op]++
		}
	}
	for _, op := range []int{api.OpMov, api.OpAdd, api.OpSub, api.OpJeq, api.OpJsgt, api.OpJsge, api.OpJslt, api.OpJsle} {
		if count[op] < 60 {
			t.Errorf("the operation %d was seen %d times", op, count[op])
		}
	}
}
