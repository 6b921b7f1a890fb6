package rank_test

import (
	"slices"
	"testing"

	"warrant/api"
)

const many = api.MaxSteps + 1

// TestVisits (P14.2): U of 0, of just below, at and above a multiple of D; D 1; D that is greater than U.
func TestVisits(t *testing.T) {
	one := alone(t) // U is 100 and K
	for _, c := range []struct{ k, d, visits int }{
		{-1, 3, 34}, {0, 3, 34}, {1, 3, 34}, {2, 3, 35}, {3, 3, 35}, {4, 3, 35}, {5, 3, 36},
		{0, 2, 51}, {1, 2, 51}, {2, 2, 52}, {0, 1, 101}, {1 << 20, 1, 1<<20 + 101},
	} {
		one.falling(0, c.k, c.d).wantCounts(t, counts(c.visits), counts(1, c.visits, 1), 2+2*c.visits+1)
	}
	by := func(imm int) pair { return one.with(func(c *pair) { c.p.Code[2].Imm = imm }) }
	by(99).falling(0, -1, 99).wantCounts(t, counts(2), counts(1, 2, 1), 7)
	by(100).falling(0, -1, 99).wantCounts(t, counts(2), counts(1, 2, 1), 7) // the edge back is dead
	by(100).falling(0, -1, 100).wantCounts(t, counts(1), counts(1, 1, 1), 5)
	by(100).falling(0, 0, 100).wantCounts(t, counts(2), counts(1, 2, 1), 7)
	by(100).falling(0, 0, 101).wantCounts(t, counts(1), counts(1, 1, 1), 5)
	by(100).falling(0, 0, api.MaxConst).wantCounts(t, counts(1), counts(1, 1, 1), 5)
	nought := one.more(1, ranged(r3, 100, 100)).with(func(c *pair) { c.p.Code[2].Imm = 100 })
	nought.falling(0, -100, 1).wantCounts(t, counts(1), counts(1, 1, 1), 5)
	nought.falling(0, -101, 1).want(t, unranked(0, 1, -1))
}

// TestOfNone (P14.2): no loop, no block.
func TestOfNone(t *testing.T) {
	b := nested(t).wantBounded(t)
	for _, n := range []int{-1, 2, 3, 6, 7, 8, 9, 44, -1 << 63, 1<<63 - 1} {
		if b.Visits(n) != 0 || n > 5 && b.Times(n) != 0 || n < 0 && b.Times(n) != 0 {
			t.Errorf("of %d: %d visits, %d times", n, b.Visits(n), b.Times(n))
		}
	}
	none := paired(t, "r0 = 0\nif r0 == 1 goto +0\nexit", nil, claim(nil), claim(nums(r0)))
	none.wantCounts(t, nil, counts(1, 1), 3)
}

// bypassed has a loop within a loop, of which no run comes to either; the outer one's head is Dead, the inner one's is claimed, and so is the way from it to the end.
func bypassed(t *testing.T) pair {
	t.Helper()
	keep := claim(nums(r0, r3), ranged(r0, 0, 0), ranged(r3, 1, 100))
	return paired(t, "r0 = 0\nr3 = 9\nif r0 == 0 goto out\nouter: r3 = 100\ninner: r3 -= 1\nif r3 s> 0 goto inner\nif r0 != 0 goto outer\nout: exit",
		loops(ranked(1, r9, r8, 0, 1), ranked(2, r3, zero, -1, 1)),
		claim(nil), dead(), keep, claim(nums(r0), ranged(r0, 0, 0)), claim(nums(r0)))
}

// TestMany (P14.2, P14.3): Many, where the bound is none the less no greater than MaxSteps: in a loop whose head is Dead.
func TestMany(t *testing.T) {
	c := bypassed(t)
	c.wantCounts(t, counts(0, 100), counts(1, 0, 0, 0, 1), 3+1)
	for _, n := range []int{101, 1 << 20, api.MaxSteps - 1, api.MaxSteps, many} {
		c.falling(1, n-101, 1).wantCounts(t, counts(0, n), counts(1, 0, 0, 0, 1), 3+1)
	}
	for _, k := range []int{many - 100, many + 5, api.MaxConst} {
		c.falling(1, k, 1).wantCounts(t, counts(0, many), counts(1, 0, 0, 0, 1), 3+1)
	}
	c.falling(1, -2, 1).want(t, unranked(1, 2, -1))
	c.falling(1, 0, 2).want(t, unranked(1, 2, 0))
	alive := c.with(func(c *pair) { c.d.Claims[1] = claim(nums(r0), ranged(r0, 0, 0)) })
	alive.want(t, unranked(0, 1, -1))
	alive.by(0, r0, zero, 0, 1).wantCounts(t, counts(1, 100), counts(1, 1, 100, 1, 1), 3+1+2*100+1+1)
	alive.by(0, r0, zero, 6, 7).wantCounts(t, counts(1, 100), counts(1, 1, 100, 1, 1), 3+1+2*100+1+1) // its edge back is dead
	alive.by(0, r0, zero, 7, 7).wantCounts(t, counts(2, 100), counts(1, 2, 200, 2, 1), 3+2+2*200+2+1)
	alive.by(0, r0, zero, 7, 7).falling(1, api.MaxConst, 1).want(t, unbounded())
}

// TestDeadWithin (P14.2): a Dead block in loops that are not, and a block behind a Dead head that is not.
func TestDeadWithin(t *testing.T) {
	c := nested(t).with(func(c *pair) {
		c.p.Code[5] = api.Ins{Op: api.OpMov, Dst: 4, Imm: 0}
		c.p.Code[2].Imm, c.p.Code[8].Imm = 0, 0
		for k := 1; k < 5; k++ {
			c.d.Claims[k].Cons = append(c.d.Claims[k].Cons, ranged(r4, 0, 0)...)
		}
		c.d.Claims[3] = dead()
	})
	c.falling(1, 0, api.MaxConst).wantCounts(t, counts(10, 1), counts(1, 10, 10, 0, 10, 1), 3+10+10+3*10+1)
	c.falling(1, 7, 2).wantCounts(t, counts(10, 4), counts(1, 10, 40, 0, 10, 1), 3+10+40+3*10+1)
}

// straight is as many loads of a number into r5 as are asked for.
func straight(n int) string {
	s := ""
	for range n {
		s += "r5 = 1\n"
	}
	return s
}

// TestMaxSteps (P14.1, P14.3): a bound of MaxSteps and of one more, by one loop.
func TestMaxSteps(t *testing.T) {
	with := func(more int) pair {
		return paired(t, straight(more)+"r0 = 0\ntop: r2 -= 1\nif r2 s> 0 goto top\nexit", loops(ranked(1, r2, zero, 1<<31-102, 1)),
			claim(nums(r2), ranged(r2, 0, 100)), claim(nums(r0, r2), ranged(r2, 0, 100)), claim(nums(r0)))
	}
	c := with(0)
	c.wantCounts(t, counts(1<<31-1), counts(1, 1<<31-1, 1), api.MaxSteps)
	with(1).want(t, unbounded())
	with(2).want(t, unbounded())
	with(1).falling(0, 1<<31-103, 1).wantCounts(t, counts(1<<31-2), counts(1, 1<<31-2, 1), api.MaxSteps-1)
	with(2).falling(0, 1<<31-103, 1).wantCounts(t, counts(1<<31-2), counts(1, 1<<31-2, 1), api.MaxSteps)
	c.falling(0, 1<<31-101, 1).want(t, unbounded())
	c.falling(0, api.MaxConst, 1).want(t, unbounded())
	c.falling(0, api.MaxConst, 2).want(t, unranked(0, 1, 0))
}

// TestMaxStepsWithin (P14.1, P14.3): a bound of MaxSteps and of one more, by loops one in the other.
func TestMaxStepsWithin(t *testing.T) {
	with := func(more, outer, inner int) pair {
		return paired(t, straight(more)+"r0 = 0\nouter: r4 = 100\ninner: r4 -= 1\nif r4 s> 0 goto inner\nr2 -= 1\nif r2 s> 0 goto outer\nexit",
			loops(ranked(1, r2, zero, outer-101, 1), ranked(2, r4, zero, inner-101, 1)),
			claim(nums(r2), ranged(r2, 0, 100)), claim(nums(r0, r2), ranged(r2, 0, 100)),
			claim(nums(r0, r2, r4), ranged(r2, 0, 100), ranged(r4, 1, 100), since(0, r2, zero)), claim(nums(r0, r2), ranged(r2, 0, 100), since(0, r2, zero)), claim(nums(r0)))
	}
	reckoned := func(more, outer, inner int) int { return more + 1 + outer + 2*outer*inner + 2*outer + 1 }
	with(0, 101, 100).wantCounts(t, counts(101, 100), counts(1, 101, 10100, 101, 1), reckoned(0, 101, 100))
	rest := api.MaxSteps - reckoned(0, 127, 16909318) // so near to the end as these two come
	with(rest, 127, 16909318).wantCounts(t, counts(127, 16909318), counts(1, 127, 127*16909318, 127, 1), api.MaxSteps)
	with(rest+1, 127, 16909318).want(t, unbounded())
	with(rest, 127, 16909319).want(t, unbounded())
	with(rest, 128, 16909318).want(t, unbounded())
	for _, c := range [][2]int{{1 << 16, 1 << 16}, {1 << 31, 1 << 31}, {1 << 32, 1 << 32}, {many, many}, {1 << 33, 1 << 33}, {101, 1 << 32}, {1 << 32, 100}, {641, 6700417}, {1 << 40, 1 << 40}} {
		with(0, c[0], c[1]).want(t, unbounded())
	}
	with(0, 1<<40, 1<<40).falling(1, 1<<40, 2).want(t, unranked(1, 2, 0))
}

// deep has eight loops, one in the other, each a head alone and a block behind.
func deep(t *testing.T, visits int) pair {
	t.Helper()
	text, tail := "r0 = 0\n", ""
	c := pair{d: api.Deed{Claims: []api.Claim{claim(nil)}}}
	regs := []int{r1, r2, r3, r4, r5, r6, r7, r8}
	of := func(n int) []api.Con {
		var l []api.Con
		for h, v := range regs[:n] {
			l = slices.Concat(l, ranged(v, 1, 100), since(h, v, zero))
		}
		return l
	}
	for h, v := range regs {
		text += sprintf("r%d = 100\nl%d: ", v-r0, h)
		tail = sprintf("r%d -= 1\nif r%d s> 0 goto l%d\n", v-r0, v-r0, h) + tail
		c.d.Loops = append(c.d.Loops, ranked(1+h, v, zero, visits-101, 1))
	}
	c.p = coded(t, text+tail+"exit")
	for h := 1; h < len(regs); h++ {
		c.d.Claims = append(c.d.Claims, claim(append(nums(r0), regs[:h]...), of(h-1), ranged(regs[h-1], 1, 100)))
	}
	c.d.Claims = append(c.d.Claims, claim(append(nums(r0), regs...), of(7), ranged(r8, 1, 100)))
	for h := len(regs) - 1; h > 0; h-- {
		c.d.Claims = append(c.d.Claims, claim(append(nums(r0), regs[:h]...), of(h)))
	}
	c.d.Claims = append(c.d.Claims, claim(nums(r0)))
	return c
}

// TestDeep (P14.2, P14.3): eight loops, one in the other.
func TestDeep(t *testing.T) {
	b := deep(t, 100)
	if _, fault := b.held(t); fault != unbounded() {
		t.Errorf("100 each: %+v", fault)
	}
	b = deep(t, 16) // what is claimed is more, and the rank may not be below 0
	b.want(t, unranked(0, 1, -1))
	few := deep(t, 100).with(func(c *pair) {
		for n := range c.p.Code {
			if c.p.Code[n].Imm == 100 {
				c.p.Code[n].Imm = 8
			}
		}
		for k := range c.d.Claims {
			for n := range c.d.Claims[k].Cons {
				if c.d.Claims[k].Cons[n].C == 100 {
					c.d.Claims[k].Cons[n].C = 8
				}
			}
		}
	})
	times := []int{1}
	for h := range 8 {
		times = append(times, 1<<(3*h+3))
	}
	for h := 6; h >= 0; h-- {
		times = append(times, 1<<(3*h+3))
	}
	few.wantCounts(t, counts(8, 8, 8, 8, 8, 8, 8, 8), append(times, 1), fewBound())
	for _, n := range []int{1 << 8, 1 << 16, 1 << 32, many} {
		deep(t, n).want(t, unbounded())
	}
}

// fewBound is the bound of eight loops of eight visits each.
func fewBound() int {
	n := 2 + 1
	for h := range 7 {
		n += 1 << (3*h + 3) // the next one's counter is set
		n += 2 << (3*h + 3)
	}
	return n + 2<<24
}
