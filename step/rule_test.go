package step_test

import (
	"math"
	"math/rand"
	"slices"
	"sync"
	"testing"

	"warrant/api"
	"warrant/shape"
	"warrant/step"
	"warrant/zone"
)

// seen is all that a shape answers of itself.
type seen struct {
	dead bool
	tag  [vars]api.Tag
	m    [vars][vars]api.Bound
}

func look(s *shape.Shape) seen {
	k := seen{dead: s.Dead()}
	for i := range vars {
		k.tag[i] = s.Tag(i)
		for j := range vars {
			k.m[i][j] = s.Bound(i, j)
		}
	}
	return k
}

// many are calls of all sorts, over shapes of all sorts.
func many(t *testing.T, seed, n int) []call {
	t.Helper()
	d := rolling(seed)
	var l []call
	for range n {
		l = append(l, d.call(program(), d.some(t)))
	}
	for _, s := range []*shape.Shape{of(t, tags{r0: num(), x: num(), y: num()}, ranged(y, 1, 9)), shape.Dead()} {
		for op := api.OpAdd; op <= api.OpExit; op++ {
			if i := plain(op); op >= api.OpJa && op <= api.OpJset {
				l = append(l, taking(s, i, true), taking(s, i, false))
			} else {
				l = append(l, doing(s, i))
			}
		}
	}
	return l
}

// TestUnchanged (R6): no call changes the shape that it is handed, nor what an earlier one answered.
func TestUnchanged(t *testing.T) {
	for _, c := range many(t, 1, 400) {
		before := look(c.s)
		now, e := c.of(program())
		if look(c.s) != before {
			t.Fatalf("%s: the shape has changed", c.told())
		}
		if e != api.OK {
			continue
		}
		after := look(now)
		again, _ := c.of(program())
		c.i.Dst, c.i.Src = c.i.Src%10, c.i.Dst
		c.s = now
		c.of(program())
		if look(now) != after || look(again) != after {
			t.Fatalf("%s: an answer has changed", c.told())
		}
	}
}

// TestNewMemory (R3, R6): what is answered shares nothing with what was handed in, nor with another answer; also where nothing is to be changed.
func TestNewMemory(t *testing.T) {
	none, e := zone.New().With(con(0, 0, -1))
	if e != api.OK {
		t.Fatal(e)
	}
	alike := 0
	for _, c := range many(t, 2, 400) {
		before := look(c.s)
		now, e := c.of(program())
		again, _ := c.of(program())
		if e != api.OK {
			continue
		}
		if now == c.s || now.Zone == c.s.Zone || now == again || now.Zone == again.Zone {
			t.Fatalf("%s: the answer is not new", c.told())
		}
		after := look(again)
		if after == before {
			alike++
		}
		*now.Zone = *none
		*now = *shape.Dead()
		if look(c.s) != before || look(again) != after {
			t.Fatalf("%s: the answer shares memory", c.told())
		}
	}
	if alike < 20 {
		t.Errorf("%d answers were as what was handed in", alike)
	}
}

// TestHandedIn (R3): a program's lists read as before behind each call, their spare room too, and none is kept.
func TestHandedIn(t *testing.T) {
	data, tables, code := []byte("0123456789abcdefspare"), []api.Table{{Rows: 4, Wide: 8}, {Rows: 64, Wide: 3}, {Rows: 9, Wide: 9}}, []api.Ins{{Op: api.OpExit}, {Op: 77}}
	for _, c := range many(t, 3, 400) {
		p := api.Program{Lo: 3, Hi: 70, Data: slices.Clone(data)[:16], Tables: slices.Clone(tables)[:2], Code: slices.Clone(code)[:1]}
		want, f := c.of(program())
		s, e := c.of(p)
		if !slices.Equal(p.Data[:len(data)], data) || !slices.Equal(p.Tables[:3], tables) || !slices.Equal(p.Code[:2], code) {
			t.Fatalf("%s: a list of the program has changed", c.told())
		}
		if e != f || e == api.OK && look(s) != look(want) {
			t.Fatalf("%s: %s, %v; want %s, %v: of a program its data's length and its tables are looked at", c.told(), told(s), e, told(want), f)
		}
		if e == api.OK {
			clear(p.Data)
			clear(p.Tables)
			if look(s) != look(want) {
				t.Fatalf("%s: a list is kept", c.told())
			}
		}
	}
}

// TestSideBySide (R4): many may ask of one shape at a time, and each is answered the same.
func TestSideBySide(t *testing.T) {
	l := many(t, 4, 100)
	ask := func() []api.Errno {
		var all []api.Errno
		for _, c := range l {
			s, e := c.of(program())
			if e == api.OK {
				e = api.Errno(1000 + len(s.Cons()))
			}
			all = append(all, e)
		}
		return all
	}
	want := ask()
	wrong := make([]bool, 4)
	var all sync.WaitGroup
	for n := range wrong {
		all.Go(func() { wrong[n] = !slices.Equal(ask(), want) })
	}
	all.Wait()
	if slices.Contains(wrong, true) {
		t.Error("calls side by side answer otherwise")
	}
}

// odd draws numbers at and beyond all limits.
func odd(r *rand.Rand) int {
	l := []int{math.MinInt, math.MinInt + 1, -most - 1, -most, -1 << 31, -32768, -256, -8, -1, 0, 0, 0, 1, 2, 4, 8, 9, 10, 11, 15, 16, 32, 63, 64, 225, 241, 255, 256, 32767, 32768, 1<<31 - 1, 1 << 31, most, most + 1, math.MaxInt}
	return l[r.Intn(len(l))]
}

// strange is a program of which nothing need be right, but that it has no more tables than tags can tell.
func strange(r *rand.Rand) api.Program {
	p := api.Program{Lo: odd(r), Hi: odd(r), Data: make([]byte, r.Intn(3)*r.Intn(5000))}
	for range r.Intn(api.MaxTables + 1) {
		p.Tables = append(p.Tables, api.Table{Rows: odd(r), Wide: odd(r)})
	}
	return p
}

// TestAnything (R1): each call ends, and does not panic, at whatever it is handed, with the error that it should have.
func TestAnything(t *testing.T) {
	r := rand.New(rand.NewSource(5))
	d := dice{r}
	for range 300 {
		s, p := d.some(t), strange(r)
		for range 40 {
			i := api.Ins{Op: r.Intn(42) - 1, Narrow: r.Intn(2) == 0, Reg: r.Intn(2) == 0, Size: odd(r), Dst: odd(r), Src: odd(r), Off: odd(r), Imm: odd(r)}
			if r.Intn(3) > 0 {
				i = d.ins()
				i = []api.Ins{i, {Op: i.Op, Dst: odd(r), Src: i.Src, Reg: i.Reg, Size: i.Size, Off: i.Off, Imm: i.Imm}, {Op: i.Op, Dst: i.Dst, Src: i.Src, Reg: i.Reg, Size: i.Size, Narrow: i.Narrow, Off: odd(r), Imm: i.Imm}}[r.Intn(3)]
			}
			doing(s, i).held(t, p)
			taking(s, i, true).held(t, p)
			taking(s, i, false).held(t, p)
		}
	}
	p := api.Program{Tables: make([]api.Table, 200)} // more than tags can tell
	for n := range p.Tables {
		p.Tables[n].Rows = 5
		s := of(t, tags{r1: num(), r2: num()}, exactly(r1, n), ranged(r2, 0, 3))
		now, e := step.Do(p, s, calling(api.HelpRow))
		if n < api.MaxTables && (e != api.OK || now.Tag(r0) != row(n)) || n >= api.MaxTables && (e != api.TrapCall || now != nil) {
			t.Errorf("the table %d: %s, %v", n, told(now), e)
		}
	}
}
