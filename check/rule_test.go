package check_test

import (
	"math"
	"math/rand"
	"slices"
	"sync"
	"testing"

	"warrant/api"
	"warrant/check"
)

// tabled is a pair with something in each list: data, tables, loops, bounds.
func tabled(t *testing.T) pair {
	t.Helper()
	return summing(t).with(func(c *pair) {
		c.p.Data = []byte{1, 2, 3}
		c.p.Tables = []api.Table{{Rows: 4, Wide: 8}, {Rows: 1, Wide: 64}}
		c.d.Claims[3].Cons = cons(con(0, ln, 0))
	})
}

// roomy is a pair in memory of its own, with room behind each list and something in it.
func (c pair) roomy() pair {
	c = c.copied()
	c.p.Data = append(c.p.Data, 7, 7)[:len(c.p.Data)]
	c.p.Tables = append(c.p.Tables, api.Table{Rows: 7, Wide: 7})[:len(c.p.Tables)]
	c.p.Code = append(c.p.Code, api.Ins{Op: 7})[:len(c.p.Code)]
	c.d.Loops = append(c.d.Loops, rank(7, 7, 7, 7, 7))[:len(c.d.Loops)]
	c.d.Claims = append(c.d.Claims, api.Claim{Cons: cons(con(7, 7, 7))})[:len(c.d.Claims)]
	for k := range c.d.Claims {
		l := &c.d.Claims[k].Cons
		*l = append(*l, con(7, 7, 7))[:len(*l)]
	}
	return c
}

// whole is a pair with all the room behind its lists, in memory of its own.
func (c pair) whole() pair {
	c.p.Data, c.p.Tables, c.p.Code = c.p.Data[:cap(c.p.Data)], c.p.Tables[:cap(c.p.Tables)], c.p.Code[:cap(c.p.Code)]
	c.d.Loops, c.d.Claims = c.d.Loops[:cap(c.d.Loops)], slices.Clone(c.d.Claims[:cap(c.d.Claims)])
	for k := range c.d.Claims {
		l := &c.d.Claims[k].Cons
		*l = (*l)[:cap(*l)]
	}
	return c.copied()
}

func samePair(a, b pair) bool { return sameProgram(a.p, b.p) && sameDeed(a.d, b.d) }

// spoilProgram writes into each list of a program, and into the room behind it.
func spoilProgram(p api.Program) {
	for n := range p.Data[:cap(p.Data)] {
		p.Data[:cap(p.Data)][n] = 99
	}
	clear(p.Tables[:cap(p.Tables)])
	for n := range p.Code[:cap(p.Code)] {
		p.Code[:cap(p.Code)][n] = api.Ins{Op: -7}
	}
}

// spoilDeed writes into each list of a warrant, and into the room behind it.
func spoilDeed(d api.Deed) {
	for k := range d.Claims[:cap(d.Claims)] {
		c := &d.Claims[:cap(d.Claims)][k]
		for n := range c.Cons[:cap(c.Cons)] {
			c.Cons[:cap(c.Cons)][n] = con(-7, -7, -7)
		}
		*c = api.Claim{Dead: true, Cons: c.Cons}
	}
	for n := range d.Loops[:cap(d.Loops)] {
		d.Loops[:cap(d.Loops)][n] = rank(-7, -7, -7, -7, -7)
	}
}

// TestHandedIn (P13.4, R3): what is handed in reads as before, the room behind it too, whether it is proven or refused; and it is not kept.
func TestHandedIn(t *testing.T) {
	asked := []pair{tabled(t), longer(t), nested(t), circling(t, all(), r0, ln)}
	for _, f := range flaws() {
		asked = append(asked, longer(t).with(f.turn))
	}
	for seed := range 20 {
		d := rolling(3000 + seed)
		c := d.grown(t, d.program(t))
		asked = append(asked, c, d.turned(c))
	}
	proven := 0
	for _, c := range asked {
		handed := c.roomy()
		before := handed.whole()
		v, fault := check.Check(handed.p, handed.d)
		if !samePair(handed.whole(), before) {
			t.Fatalf("%shas changed", c.told())
		}
		want := c.reckon()
		if fault != want.fault {
			t.Fatalf("%s%+v", c.told(), fault)
		}
		if v == nil {
			continue
		}
		proven++
		spoilProgram(handed.p)
		spoilDeed(handed.d)
		c.wantTold(t, v, want.twin)
	}
	if proven < 15 {
		t.Errorf("%d were proven", proven)
	}
}

// TestAskedTwice (P13.4, R4): the same pair has the same answer each time, whatever was asked between; nil and an empty list are one.
func TestAskedTwice(t *testing.T) {
	c := tabled(t)
	first := c.wantProven(t)
	for _, f := range flaws() {
		longer(t).with(f.turn).want(t, f.want)
	}
	c.wantProven(t)
	c.wantTold(t, first, c.reckon().twin)
	small := paired(t, "r0 = 7\nexit", nil, claim(nil))
	small.wantProven(t)
	small.with(func(c *pair) {
		c.p.Data, c.p.Tables, c.d.Loops, c.d.Claims[0].Cons = []byte{}, []api.Table{}, []api.Loop{}, []api.Con{}
	}).wantProven(t)
	pair{api.Program{Code: []api.Ins{}}, api.Deed{Claims: []api.Claim{}}}.want(t, program(api.ErrNoIns, 0))
	pair{}.want(t, program(api.ErrNoIns, 0))
}

// TestSideBySide (P13.4, R4, R6): many may ask at a time, of one pair and of one proven program, and each is answered the same.
func TestSideBySide(t *testing.T) {
	var all []pair
	var faults []api.Fault
	for seed := range 12 {
		d := rolling(4000 + seed)
		c := d.grown(t, d.program(t))
		all = append(all, c, d.turned(c))
	}
	for _, c := range all {
		_, fault := check.Check(c.p, c.d)
		faults = append(faults, fault)
	}
	c := summing(t)
	v, o := c.wantProven(t), c.reckon().twin
	for i := range c.p.Code {
		o.before(i) // so that all of them stand there, and are only read from here on
	}
	wrong := make([]bool, 6)
	var group sync.WaitGroup
	for n := range wrong {
		group.Go(func() {
			for k := range all {
				k = (k + n) % len(all)
				_, fault := check.Check(all[k].p, all[k].d)
				wrong[n] = wrong[n] || fault != faults[k]
			}
			for i := range c.p.Code {
				wrong[n] = wrong[n] || !sameShape(v.Before(i), o.before(i))
			}
			for k, b := range v.Flow().Blocks() {
				for edge := range b.Next {
					wrong[n] = wrong[n] || !sameShape(v.Post(k, edge), o.post(k, edge))
				}
			}
			wrong[n] = wrong[n] || !sameProgram(v.Program(), c.p) || !sameDeed(v.Deed(), c.d)
		})
	}
	group.Wait()
	if slices.Contains(wrong, true) {
		t.Error("calls side by side answer otherwise")
	}
}

// odd draws numbers at and beyond all limits.
func odd(r *rand.Rand) int {
	l := []int{math.MinInt, math.MinInt + 1, -1<<60 - 1, -api.MaxConst - 1, -api.MaxConst, -256, -8, -1, 0, 0, 1, 2, 3, 5, 6, 7, 8, 10, 31, 32, 43, 44, 45, 59, 60, 255, 256, 511, 512, 65535, 65536, api.MaxConst, api.MaxConst + 1, 1 << 60, math.MaxInt - 1, math.MaxInt}
	return l[r.Intn(len(l))]
}

// strange is a pair of which nothing need be right.
func strange(r *rand.Rand) pair {
	c := pair{p: api.Program{Lo: odd(r), Hi: odd(r), Data: make([]byte, r.Intn(3)*r.Intn(5000)), Tables: make([]api.Table, r.Intn(10)), Code: make([]api.Ins, r.Intn(6))}}
	for n := range c.p.Tables {
		c.p.Tables[n] = api.Table{Rows: odd(r), Wide: odd(r)}
	}
	for n := range c.p.Code {
		c.p.Code[n] = strangeIns(r)
	}
	c.d.Loops = make([]api.Loop, r.Intn(4))
	for n := range c.d.Loops {
		c.d.Loops[n] = rank(odd(r), odd(r), odd(r), odd(r), odd(r))
	}
	for range r.Intn(5) {
		c.d.Claims = append(c.d.Claims, strangeClaim(r))
	}
	return c
}

func strangeIns(r *rand.Rand) api.Ins {
	return api.Ins{Op: r.Intn(42) - 1, Narrow: r.Intn(2) == 0, Reg: r.Intn(2) == 0, Size: odd(r), Dst: odd(r), Src: odd(r), Off: odd(r), Imm: odd(r)}
}

func strangeClaim(r *rand.Rand) api.Claim {
	c := api.Claim{Dead: r.Intn(4) == 0}
	for r.Intn(2) == 0 {
		c.Regs[r.Intn(10)] = api.Tag{Kind: odd(r), Table: odd(r), Mask: odd(r)}
		c.Stack[r.Intn(32)] = api.Tag{Kind: odd(r), Table: odd(r), Mask: odd(r)}
	}
	for range r.Intn(4) {
		c.Cons = append(c.Cons, con(odd(r), odd(r), odd(r)))
	}
	return c
}

// TestAnything (R1): each call ends, and does not panic, at whatever it is handed, with the fault that it should have.
func TestAnything(t *testing.T) {
	r := rand.New(rand.NewSource(5))
	d := dice{r}
	for range 2000 {
		strange(r).held(t)
	}
	met := map[api.Errno]int{}
	for seed := range 12 {
		c := rolling(5000+seed).grown(t, rolling(5000+seed).program(t))
		for range 60 {
			other := c.copied()
			for range 1 + r.Intn(2) {
				k := r.Intn(len(other.d.Claims))
				switch r.Intn(6) {
				case 0:
					other.p.Code[r.Intn(len(other.p.Code))] = strangeIns(r)
				case 1:
					other.p.Lo, other.p.Hi = odd(r), odd(r)
				case 2:
					other.d.Claims[k] = strangeClaim(r)
				case 3:
					other.d.Claims[k].Cons = append(other.d.Claims[k].Cons, con(odd(r), odd(r), odd(r)))
				case 4:
					other.d.Claims[k].Regs[r.Intn(10)].Kind = d.Intn(7)
				case 5:
					if n := len(other.d.Loops); n > 0 {
						other.d.Loops[r.Intn(n)] = rank(odd(r), odd(r), odd(r), odd(r), odd(r))
					}
				}
			}
			_, fault := other.held(t)
			met[fault.Class]++
		}
	}
	for _, e := range []api.Errno{api.ErrProgram, api.ErrCert, api.ErrUnsafe, api.ErrNotInductive, api.OK} {
		if met[e] < 5 {
			t.Errorf("%v was met %d times", e, met[e])
		}
	}
}

// TestLongest (R1, P13.1, P13.2): as many instructions as there may be, in one block.
func TestLongest(t *testing.T) {
	c := pair{api.Program{Hi: api.MaxCtx}, api.Deed{Claims: []api.Claim{claim(nil)}}}
	for n := range api.MaxIns - 1 {
		c.p.Code = append(c.p.Code, api.Ins{Op: api.OpMov, Dst: n % 10, Imm: n})
	}
	c.p.Code = append(c.p.Code, api.Ins{Op: api.OpExit})
	v, fault := check.Check(c.p, c.d)
	if fault != (api.Fault{}) {
		t.Fatalf("%+v", fault)
	}
	for i := range c.p.Code {
		if s := v.Before(i); s.Dead() || i > 0 && s.Bound(r0+(i-1)%10, 0) != (api.Bound{Is: true, C: i - 1}) {
			t.Fatalf("ahead of %d: %s", i, told(s))
		}
	}
	if !v.Before(api.MaxIns).Dead() {
		t.Error("behind the last one it is not dead")
	}
	c.p.Code[api.MaxIns-2] = api.Ins{Op: api.OpLoad, Size: 1, Src: 9}
	if _, fault = check.Check(c.p, c.d); fault != unsafe(api.TrapKind, 0, api.MaxIns-2) {
		t.Errorf("%+v", fault)
	}
}

// TestMost (R1, P13.1, P13.2): as many blocks as there may be, each with a bound for each two registers.
func TestMost(t *testing.T) {
	c := pair{api.Program{Hi: api.MaxCtx}, api.Deed{Claims: []api.Claim{claim(nil)}}}
	keep := claim(nil)
	for n := range 10 {
		c.p.Code = append(c.p.Code, api.Ins{Op: api.OpMov, Dst: n})
		keep.Regs[n] = num()
		keep.Cons = append(keep.Cons, ranged(r0+n, 0, 600)...)
		for k := range n {
			keep.Cons = append(keep.Cons, con(r0+n, r0+k, 600), con(r0+k, r0+n, 600))
		}
	}
	for b := range api.MaxBlocks - 1 {
		c.p.Code = append(c.p.Code, api.Ins{Op: api.OpMov, Dst: b % 9, Imm: b}, api.Ins{Op: api.OpAdd, Dst: b % 9, Imm: 1}, api.Ins{Op: api.OpJeq, Dst: 9, Imm: b + 1})
		c.d.Claims = append(c.d.Claims, keep)
	}
	c.p.Code = append(c.p.Code, api.Ins{Op: api.OpExit})
	v, fault := check.Check(c.p, c.d)
	if fault != (api.Fault{}) {
		t.Fatalf("%+v", fault)
	}
	for k := range api.MaxBlocks - 1 {
		if s := v.Post(k, 1); s.Bound(r0+k%9, 0) != (api.Bound{Is: true, C: k + 1}) {
			t.Fatalf("on the edge 1 of %d: %s", k, told(s))
		}
	}
	last := c.more(api.MaxBlocks-1, cons(con(r0+6, 0, 510)))
	if _, fault = check.Check(last.p, last.d); fault != loose(api.MaxBlocks-2, 0, len(c.p.Code)-2) {
		t.Errorf("%+v", fault)
	}
}
