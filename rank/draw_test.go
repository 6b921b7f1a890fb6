package rank_test

import (
	"fmt"
	"math/rand"
	"slices"
	"strings"
	"testing"

	"warrant/api"
	"warrant/check"
	"warrant/flow"
	"warrant/jumps"
	"warrant/shape"
	"warrant/step"
	"warrant/zone"
)

// dice draws programs and warrants.
type dice struct{ *rand.Rand }

func rolling(seed int) dice { return dice{rand.New(rand.NewSource(int64(seed)))} }

func (d dice) one(of int) bool { return d.Intn(of) == 0 }

func among[T any](d dice, l ...T) T { return l[d.Intn(len(l))] }

// draft is a program's text on its way, with a rank for each loop: r6 is the context, r7 its length, r0 and r3 to r5 are numbers, r8, r9 and three slots count.
type draft struct {
	dice
	lines             []string
	size, labels      int
	deep, loops, most int
	ranks             map[int]api.Loop // by the instructions at which the heads begin
}

// say writes instructions, a line each; a label stands in a line of its own.
func (f *draft) say(text string, more ...any) {
	for line := range strings.SplitSeq(fmt.Sprintf(text, more...), "\n") {
		f.lines = append(f.lines, line)
		if !strings.HasSuffix(line, ":") {
			f.size++
		}
	}
}

func (f *draft) label() string {
	f.labels++
	return fmt.Sprint("l", f.labels)
}

// head writes a loop's label, and remembers its rank.
func (f *draft) head(label string, a, b, k, d int) {
	f.say("%s:", label)
	if f.one(8) {
		k += among(f.dice, 1, 5, -1, 1000)
	}
	if f.one(8) {
		d += among(f.dice, 1, 1, -1, 4)
	}
	f.ranks[f.size] = ranked(0, a, b, k, max(1, d))
}

func (f *draft) num() string { return among(f.dice, "r0", "r3", "r4", "r5") }

func (f *draft) reckon() {
	n, m := f.num(), f.num()
	switch f.Intn(5) {
	case 0:
		f.say("%s = %d", n, f.Intn(9))
	case 1:
		f.say("%s &= %d", n, among(f.dice, 1, 7, 255))
	case 2:
		f.say("%s += %s", n, m)
	case 3:
		f.say("%s ^= %s", n, m)
	case 4:
		f.say("u64 [r10 - 8] = %s\n%s = u64 [r10 - 16]", n, m)
	}
}

func (f *draft) choice() {
	other, end := f.label(), f.label()
	f.say("if %s %s %d goto %s", f.num(), among(f.dice, "==", "s<", "&"), f.Intn(8), other)
	f.body()
	f.say("goto %s\n%s:", end, other)
	f.body()
	f.say("%s:", end)
}

func (f *draft) body() {
	for range f.Intn(3) {
		switch f.Intn(6) {
		case 0:
			f.choice()
		case 1, 2:
			f.loop()
		default:
			f.reckon()
		}
	}
}

// loop goes round with a counter of its own.
func (f *draft) loop() {
	if f.deep == f.most || f.loops == api.MaxLoops {
		return
	}
	f.loops++
	reg, v := []string{"r8", "r9"}[f.deep%2], r8+f.deep%2
	f.deep++
	switch {
	case f.deep == 3 || f.one(6):
		f.inSlot(f.deep)
	default:
		among(f.dice, (*draft).up, (*draft).up, (*draft).down, (*draft).down, (*draft).below, (*draft).pointing, (*draft).shrinking, (*draft).unentered, (*draft).once, (*draft).free)(f, reg, v)
	}
	f.deep--
}

// up counts to a number or to the context's length, now and then by two ways back.
func (f *draft) up(c string, v int) {
	top, out, by := f.label(), f.label(), 1+f.Intn(3)
	goal := f.Intn(9)
	f.say("%s = 0", c)
	if f.one(2) {
		f.head(top, among(f.dice, ln, r7), v, by-1, by)
		f.say("if %s s>= r7 goto %s", c, out)
	} else {
		f.head(top, zero, v, goal+by-1, by)
		f.say("if %s s>= %d goto %s", c, goal, out)
	}
	f.body()
	if f.one(3) {
		other := f.label()
		f.say("if %s & 1 goto %s\n%s += %d\ngoto %s\n%s:", f.num(), other, c, max(0, by+f.Intn(3)-1), top, other)
	}
	f.say("%s += %d\ngoto %s\n%s:", c, by, top, out)
}

// down counts to 0, and asks at the end.
func (f *draft) down(c string, v int) {
	top, by := f.label(), 1+f.Intn(3)
	f.say("%s = %d", c, 1+f.Intn(9))
	f.head(top, v, zero, -f.Intn(2), by)
	f.body()
	if f.one(3) {
		f.say("%s -= 1", c)
	}
	f.say("%s -= %d\nif %s s> 0 goto %s", c, by, c, top)
}

// below has its head behind its blocks.
func (f *draft) below(c string, v int) {
	back, head, out, by := f.label(), f.label(), f.label(), 1+f.Intn(3)
	f.say("%s = %d\ngoto %s\n%s:", c, f.Intn(9), head, back)
	f.body()
	f.say("%s -= %d", c, by)
	if f.one(2) {
		f.say("if %s == 7 goto %s", f.num(), out)
	}
	f.head(head, v, zero, by-1, by)
	f.say("if %s s> 0 goto %s\n%s:", c, back, out)
}

// pointing goes through the context, up to an end that stands in a slot.
func (f *draft) pointing(c string, v int) {
	top, out := f.label(), f.label()
	f.say("%s = r6", c)
	f.head(top, slot31-5, v, 0, 1)
	f.say("r5 = u64 [r10 - 48]\nif %s s>= r5 goto %s\nr4 = u8 [%s]", c, out, c)
	f.body()
	f.say("%s += 1\ngoto %s\n%s:", c, top, out)
}

// shrinking makes its counter less by a number that is not known.
func (f *draft) shrinking(c string, v int) {
	top := f.label()
	f.say("%s = %d", c, f.Intn(9))
	f.head(top, v, zero, 0, 1)
	f.body()
	f.say("r5 = %s\n%s = %s\n%s &= 7\nif %s s< r5 goto %s", c, c, f.num(), c, c, top)
}

// unentered is a loop that no run comes to.
func (f *draft) unentered(c string, v int) {
	top, out := f.label(), f.label()
	f.say("%s = 3\nif %s == 3 goto %s", c, c, out)
	f.head(top, v, f.Intn(2), f.Intn(9)-4, 1)
	f.body()
	f.say("%s -= 1\nif %s s> 0 goto %s\n%s:", c, c, top, out)
}

// once has an edge back that no run goes.
func (f *draft) once(c string, v int) {
	top := f.label()
	f.say("%s = 1", c)
	f.head(top, v, zero, 0, 1+f.Intn(100))
	f.body()
	f.say("%s -= 1\nif %s s> %d goto %s", c, c, f.Intn(3), top)
}

// free is a loop that goes on till something happens.
func (f *draft) free(_ string, _ int) {
	top, out := f.label(), f.label()
	a := among(f.dice, zero, ln, r0, r7, slot31-1)
	f.head(top, a, a+1, f.Intn(9), 1)
	f.body()
	f.say("if %s %s %d goto %s\ngoto %s\n%s:", f.num(), among(f.dice, "==", "s>"), f.Intn(4), out, top, out)
}

// inSlot counts down in a slot.
func (f *draft) inSlot(deep int) {
	top, at, by := f.label(), 16+8*deep, 1+f.Intn(2)
	f.say("u64 [r10 - %d] = %d", at, 1+f.Intn(6))
	f.head(top, slot31+1-at/8, zero, 0, by)
	f.body()
	f.say("r5 = u64 [r10 - %d]\nr5 -= %d\nu64 [r10 - %d] = r5\nif r5 s> 0 goto %s", at, by, at, top)
}

// drawn is a program, and ranks for its loops.
func (d dice) drawn(t *testing.T) (api.Program, *flow.Flow, []api.Loop) {
	t.Helper()
	f := &draft{dice: d, most: among(d, 1, 2, 3, 3), ranks: map[int]api.Loop{}}
	f.say("r6 = r1\nr7 = r2\nr0 = 0\nr3 = 1\nr4 = 2\nr5 = r6\nr5 += r7\nu64 [r10 - 48] = r5\nr5 = 3\nr8 = 0\nr9 = 0\nu64 [r10 - 8] = 4\nu64 [r10 - 16] = r2")
	if d.one(3) {
		f.say("if r7 < 1 goto short\nr4 = u8 [r6]\nshort:")
	}
	for range 1 + d.Intn(3) {
		f.body()
		f.loop()
	}
	f.say("r0 = 7\nexit")
	p := coded(t, strings.Join(f.lines, "\n"))
	p.Lo = among(d, 0, 0, 0, 3)
	p.Hi = p.Lo + among(d, 0, 4, 8)
	p.Tables = []api.Table{{Rows: 2, Wide: 8}}
	w, i, e := flow.Make(p.Code)
	if e != api.OK {
		t.Fatalf("%v at %d of\n%s", e, i, pair{p: p}.told())
	}
	var ranks []api.Loop
	for _, l := range w.Loops() {
		r, is := f.ranks[w.Blocks()[l.Head].From]
		if !is {
			t.Fatalf("no rank of the loop at block %d of\n%s", l.Head, pair{p: p}.told())
		}
		r.Head = l.Head
		ranks = append(ranks, r)
	}
	return p, w, ranks
}

// maker finds claims, so that there is something to rank.
type maker struct {
	p      api.Program
	blocks []api.Block
	loops  []api.Around
	ranks  []api.Loop
	claims []*shape.Shape
}

// grown is a drawn program with claims: they grow till nothing changes any more, and are then made less again.
func (d dice) grown(t *testing.T) pair {
	t.Helper()
	p, f, ranks := d.drawn(t)
	m := &maker{p, f.Blocks(), f.Loops(), ranks, make([]*shape.Shape, len(f.Blocks()))}
	for k := range m.claims {
		m.claims[k] = shape.Dead()
	}
	m.claims[0], _ = shape.Start(p)
	m.grow(f.Order())
	wide := m.pair()
	for range 2 {
		m.narrow()
	}
	narrow := m.pair()
	if v, _ := check.Check(narrow.p, narrow.d); v != nil {
		return narrow
	}
	return wide
}

// grow carries each claim on to those behind it, till none changes; that of a head that goes on changing is widened.
func (m *maker) grow(order []int) {
	turns, waiting := make([]int, len(m.claims)), make([]bool, len(m.claims))
	waiting[0] = true
	for slices.Contains(waiting, true) {
		for _, k := range order {
			if !waiting[k] {
				continue
			}
			waiting[k] = false
			for edge, s := range m.posts(k) {
				goal := m.blocks[k].Next[edge]
				was, s := m.claims[goal], m.arrived(goal, s)
				if s.Inside(was) {
					continue
				}
				waiting[goal] = true
				if turns[goal]++; turns[goal] > 13 && !was.Dead() && m.loopOf(goal) >= 0 {
					m.claims[goal] = was.Wider(s)
				} else {
					m.claims[goal] = was.Both(s)
				}
			}
		}
	}
}

// loopOf is the loop whose head a block is, or -1.
func (m *maker) loopOf(k int) int {
	return slices.IndexFunc(m.loops, func(l api.Around) bool { return l.Head == k })
}

// narrow makes each claim what comes to its block.
func (m *maker) narrow() {
	next := make([]*shape.Shape, len(m.blocks))
	for k := range next {
		next[k] = shape.Dead()
	}
	next[0], _ = shape.Start(m.p)
	for k, b := range m.blocks {
		for edge, s := range m.posts(k) {
			next[b.Next[edge]] = next[b.Next[edge]].Both(m.arrived(b.Next[edge], s))
		}
	}
	m.claims = next
}

// posts are the shapes on a block's edges; behind what traps nothing comes.
func (m *maker) posts(k int) []*shape.Shape {
	s := m.begun(k)
	b := m.blocks[k]
	for _, i := range m.p.Code[b.From : b.To-1] {
		s = orDead(step.Do(m.p, s, i))
	}
	var l []*shape.Shape
	for edge := range b.Next {
		if i := m.p.Code[b.To-1]; jumps.Is(i.Op) {
			l = append(l, orDead(step.Take(m.p, s, i, edge == 0)))
		} else {
			l = append(l, orDead(step.Do(m.p, s, i)))
		}
	}
	return l
}

func orDead(s *shape.Shape, e api.Errno) *shape.Shape {
	if e != api.OK {
		return shape.Dead()
	}
	return s
}

// begun is a claim with its loop's ghosts set.
func (m *maker) begun(k int) *shape.Shape {
	s := m.claims[k]
	h := m.loopOf(k)
	if h < 0 || s.Dead() {
		return s
	}
	z := s.Forget(ghost0+2*h, ghost0+2*h+1)
	for n, v := range []int{m.ranks[h].A, m.ranks[h].B} {
		if kind := s.Tag(v).Kind; v < r0 || kind != api.KindNone && kind != api.KindMaybe {
			z, _ = z.Assign(ghost0+2*h+n, v, 0)
		}
	}
	return over(s, z)
}

// arrived is a shape without the ghosts that an edge to a block forgets.
func (m *maker) arrived(goal int, s *shape.Shape) *shape.Shape {
	for h, l := range m.loops {
		if goal == l.Head || !slices.Contains(l.Blocks, goal) {
			s = over(s, s.Forget(ghost0+2*h, ghost0+2*h+1))
		}
	}
	return s
}

func over(s *shape.Shape, z *zone.Zone) *shape.Shape {
	c := s.Claim()
	made, _ := shape.Make(c.Regs, c.Stack, z)
	return made
}

// pair is the program with its claims; no bound of them is beyond what a warrant may have.
func (m *maker) pair() pair {
	c := pair{m.p, api.Deed{Loops: m.ranks}}
	for _, s := range m.claims {
		claim := s.Claim()
		claim.Cons = slices.DeleteFunc(claim.Cons, func(c api.Con) bool { return c.C < -api.MaxConst || c.C > api.MaxConst })
		c.d.Claims = append(c.d.Claims, claim)
	}
	return c
}

// turned is a pair in which something that ranks hang on is another way.
func (d dice) turned(c pair) pair {
	c = c.copied()
	k := d.Intn(len(c.d.Claims))
	claim := &c.d.Claims[k]
	if len(c.d.Loops) == 0 {
		return c
	}
	l := &c.d.Loops[d.Intn(len(c.d.Loops))]
	switch d.Intn(10) {
	case 0:
		l.K += among(d, 1, -1, 2, -2, 10)
	case 1:
		l.K = among(d, 0, api.MaxConst, -api.MaxConst, 1<<20, 1<<32, d.Intn(1<<32))
	case 2:
		l.D = max(1, l.D+among(d, 1, -1, 2))
	case 3:
		l.D = among(d, 1, 2, api.MaxConst)
	case 4:
		l.A = d.Intn(slot31 + 1)
	case 5:
		l.B = d.Intn(slot31 + 1)
	case 6: // what is known at the head of the rank
		head := &c.d.Claims[l.Head]
		head.Cons = slices.DeleteFunc(head.Cons, func(c api.Con) bool { return c.I == l.A || c.J == l.B })
	case 7: // what is known of the ghosts
		claim.Cons = slices.DeleteFunc(claim.Cons, func(c api.Con) bool { return c.I >= ghost0 || c.J >= ghost0 && d.one(2) })
	case 8:
		for n := range c.d.Loops {
			c.d.Loops[n].K += d.Intn(1 << 22)
		}
	case 9:
		i := &c.p.Code[d.Intn(len(c.p.Code))]
		i.Imm += among(d, 1, -1, 7)
	}
	if l.A == l.B {
		l.B = (l.A + 1) % (slot31 + 1)
	}
	return c
}
