package rank_test

import (
	"testing"

	"warrant/api"
)

// several has four loops: the first with two edges back, the second around the third, the fourth of one block.
func several(t *testing.T) pair {
	t.Helper()
	at := func(low8 int, cs ...[]api.Con) api.Claim {
		return claim(nums(r0, r8, r9), append(cs, ranged(r8, low8, 9), ranged(r9, 0, 9))...)
	}
	first, outer, inner := since(0, r8, zero), since(1, r8, zero), since(2, r9, zero)
	return paired(t, `r0 = 0
r8 = 9
r9 = 0
one: if r8 s<= 0 goto mid
if r0 == 5 goto other
r8 -= 1
goto one
other: r8 -= 1
goto one
mid: r8 = 9
outer: if r8 s<= 0 goto last
r9 = 9
inner: if r9 s<= 0 goto back
r9 -= 1
goto inner
back: r8 -= 1
goto outer
last: r8 = 9
final: r8 -= 1
if r8 s> 0 goto final
exit`,
		loops(ranked(1, r8, zero, 0, 1), ranked(6, r8, zero, 0, 1), ranked(8, r9, zero, 0, 1), ranked(12, r8, zero, 0, 1)),
		claim(nil), at(0), at(1, first), at(1, first), at(1, first), at(0),
		at(0), at(1, outer), at(1, outer), at(1, outer, inner, least(r9, 1)), at(1, outer), at(0),
		at(1), claim(nums(r0)))
}

// flaw is something that is wrong, and how it is told where nothing ahead of it is.
type flaw struct {
	turn func(c *pair)
	want api.Fault
}

// flaws are some of several, in the order in which they are told.
func flaws() []flaw {
	low := func(h int) func(c *pair) {
		return func(c *pair) { c.d.Loops[h].K = -2 }
	}
	still := func(ins int) func(c *pair) {
		return func(c *pair) { c.p.Code[ins].Imm = 0 }
	}
	return []flaw{
		{low(0), unranked(0, 1, -1)},
		{still(5), unranked(0, 3, 0)},
		{still(7), unranked(0, 4, 0)},
		{low(1), unranked(1, 6, -1)},
		{still(15), unranked(1, 10, 0)},
		{low(2), unranked(2, 8, -1)},
		{still(13), unranked(2, 9, 0)},
		{still(18), unranked(3, 12, 0)},
		{func(c *pair) { c.d.Loops[3].K = api.MaxConst }, unbounded()},
	}
}

// TestOneFlaw (P14.1): each flaw by itself.
func TestOneFlaw(t *testing.T) {
	several(t).wantCounts(t, counts(10, 10, 10, 10), counts(1, 10, 10, 10, 10, 1, 10, 10, 100, 100, 10, 1, 10, 1),
		3+10+10+2*10+2*10+1+10+10+100+2*100+2*10+1+2*10+1)
	for _, f := range flaws() {
		several(t).with(f.turn).want(t, f.want)
	}
}

// TestTwoFlaws (P14.1): of each two the one that stands first in the chapter's order.
func TestTwoFlaws(t *testing.T) {
	all := flaws()
	for n, f := range all {
		for _, g := range all[n+1:] {
			several(t).with(f.turn).with(g.turn).want(t, f.want)
		}
	}
}

// TestAllFlaws (P14.1): of all from one on, that one.
func TestAllFlaws(t *testing.T) {
	all := flaws()
	for n, f := range all {
		c := several(t)
		for _, g := range all[n:] {
			c = c.with(g.turn)
		}
		c.want(t, f.want)
	}
}
