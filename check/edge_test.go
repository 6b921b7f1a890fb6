package check_test

import (
	"testing"

	"warrant/api"
)

// choosing is a program whose first block has two edges, to the blocks 2 (where r2 is 5 or more) and 1.
func choosing(t *testing.T, taken, other api.Claim) pair {
	t.Helper()
	return paired(t, "r0 = 1\nr3 = r2\nif r2 s>= 5 goto there\nr0 = 2\nexit\nthere: r0 = 3\nexit", nil, claim(tags{r1: ctx(), r2: num()}, same(r2, ln), ranged(ln, 0, 100)), other, taken)
}

// TestTwoEdges (P13.1): the edge that is taken is the edge 0, the other one is 1; with both it is 0.
func TestTwoEdges(t *testing.T) {
	more := claim(tags{r2: num()}, cons(con(0, r2, -5)))
	less := claim(tags{r2: num()}, cons(con(r2, 0, 4)))
	choosing(t, more, less).wantProven(t)
	choosing(t, less, less).want(t, loose(0, 0, 2))
	choosing(t, more, more).want(t, loose(0, 1, 2))
	choosing(t, less, more).want(t, loose(0, 0, 2))
	choosing(t, dead(), less).want(t, loose(0, 0, 2))
	choosing(t, more, dead()).want(t, loose(0, 1, 2))
	choosing(t, dead(), dead()).want(t, loose(0, 0, 2))
	choosing(t, claim(tags{r2: num()}, cons(con(0, r2, -6))), less).want(t, loose(0, 0, 2))
	choosing(t, more, claim(tags{r2: num()}, cons(con(r2, 0, 3)))).want(t, loose(0, 1, 2))
}

// TestBothToOne (P13.1): where both edges lead to one block, each is asked for itself.
func TestBothToOne(t *testing.T) {
	to := func(goal api.Claim) pair {
		return paired(t, "r0 = 1\nif r2 s>= 5 goto there\nthere: exit", nil, claim(tags{r2: num()}, ranged(r2, 0, 100)), goal)
	}
	to(claim(tags{r0: num(), r2: num()}, ranged(r2, 0, 100))).wantProven(t)
	to(claim(tags{r0: num(), r2: num()}, ranged(r2, 0, 99))).want(t, loose(0, 0, 1))
	to(claim(tags{r0: num(), r2: num()}, ranged(r2, 1, 100))).want(t, loose(0, 1, 1))
	to(claim(tags{r0: num(), r2: num()}, ranged(r2, 1, 99))).want(t, loose(0, 0, 1))
	to(dead()).want(t, loose(0, 0, 1))
}

// TestWithoutAJump (P13.1): of a block that ends without a jump the one edge is 0, and the instruction its last one.
func TestWithoutAJump(t *testing.T) {
	text := "r0 = 1\nr3 = 5\nr3 += r2\nnext: r0 += 1\nif r0 == 9 goto next\nr0 = 7\nexit"
	head := func(lo, hi int) api.Claim { return claim(tags{r0: num(), r3: num()}, ranged(r3, lo, hi)) }
	with := func(goal api.Claim) pair {
		return paired(t, text, loops(rank(1, r0, 0, 0, 1)), claim(tags{r2: num()}, ranged(r2, 0, 100)), goal, claim(nil))
	}
	with(head(5, 105)).wantProven(t)
	with(head(5, 104)).want(t, loose(0, 0, 2))
	with(head(6, 105)).want(t, loose(0, 0, 2))
	with(dead()).want(t, loose(0, 0, 2))
	with(claim(tags{r0: num(), r4: num()})).want(t, loose(0, 0, 2))
}

// TestAlways (P13.1): an edge of a jump without a condition, forth and back, near and far.
func TestAlways(t *testing.T) {
	for _, jump := range []string{"goto next", "goto far next"} {
		c := paired(t, "r0 = 1\n"+jump+"\nother: r0 = 0\nexit\nnext: if r2 s> 3 goto other\nr2 = 4\n"+jump, loops(rank(2, r2, 0, 0, 1)),
			claim(tags{r2: num()}, ranged(r2, 0, 100)), claim(nil), claim(tags{r0: num(), r2: num()}, ranged(r2, 0, 100), exactly(r0, 1)), claim(tags{r0: num(), r2: num()}, exactly(r0, 1)))
		c.wantProven(t)
		c.more(2, cons(con(r2, 0, 99))).want(t, loose(0, 0, 1))
		c.more(2, cons(con(0, r2, -1))).want(t, loose(0, 0, 1))
		c.claimed(3, claim(tags{r0: num(), r2: num()})).want(t, loose(3, 0, 6))
		c.claimed(2, dead()).want(t, loose(0, 0, 1))
		c.claimed(1, dead()).want(t, loose(2, 0, 4))
	}
}

// TestToItself (P13.1): an edge that leads to its own block: what is claimed is to hold again.
func TestToItself(t *testing.T) {
	c := paired(t, "r3 = 9\nr0 = 0\ntop: r3 -= 3\nif r3 s> 0 goto top\nexit", loops(rank(1, r3, 0, 0, 3)), claim(nil), claim(tags{r0: num(), r3: num()}, ranged(r3, 1, 9)), claim(tags{r0: num()}))
	c.wantProven(t)
	c.claimed(1, claim(tags{r0: num(), r3: num()}, ranged(r3, 2, 9))).want(t, loose(1, 0, 3))
	c.claimed(1, claim(tags{r0: num(), r3: num()}, ranged(r3, 9, 9))).want(t, loose(1, 0, 3))
	c.claimed(1, claim(tags{r0: num(), r3: num()}, ranged(r3, 1, 8))).want(t, loose(0, 0, 1))
	c.claimed(1, claim(tags{r0: num(), r3: num()}, ranged(r3, 1, 10))).wantProven(t)
	c.claimed(1, claim(tags{r3: num()})).want(t, loose(1, 1, 3)) // r0 is not kept
	c.claimed(2, claim(tags{r0: num(), r3: num()}, ranged(r3, -2, 0))).wantProven(t)
	c.claimed(2, claim(tags{r0: num(), r3: num()}, ranged(r3, -1, 0))).want(t, loose(1, 1, 3))
}

// TestIntoDead (P13.1): an edge into a Dead block holds where no state goes it, and else does not.
func TestIntoDead(t *testing.T) {
	into := func(start api.Claim, condition string) pair {
		return paired(t, "r0 = 1\nif "+condition+" goto there\nexit\nthere: r0 = r9\nexit", nil, start, claim(tags{r0: num()}), dead())
	}
	most := claim(tags{r1: ctx(), r2: num()}, ranged(r2, 0, 100))
	for _, never := range []string{"r0 == 2", "r0 != 1", "r2 s> 100", "r2 s< 0", "r2 == 101", "r0 s> r0", "r1 s< r1", "r0 > 1"} {
		into(most, never).wantProven(t)
	}
	for _, always := range []string{"r0 == 1", "r2 s> 99", "r2 == 100", "r2 s<= 0", "r0 != r2", "r2 & 1", "r0 >= r2"} {
		into(most, always).want(t, loose(0, 0, 1))
	}
	into(claim(tags{r2: num()}), "r2 s> 100").want(t, loose(0, 0, 1))
	into(most, "r0 == 1").claimed(1, dead()).claimed(2, claim(nil)).want(t, unsafe(api.TrapKind, 2, 3))
	paired(t, "r0 = 1\nif r0 == 1 goto there\nexit\nthere: exit", nil, most, dead(), claim(tags{r0: num()})).wantProven(t)
}

// TestByKinds (P13.1): a tag that an edge does not bring is not held, be all else right.
func TestByKinds(t *testing.T) {
	text := "r0 = 0\nr3 = r1\nr4 = r10\nr5 = data 0\nu64 [r10 - 8] = 5\nu32 [r10 - 16] = r2\nu64 [r10 - 24] = r1\nif r2 == 9 goto there\nexit\nthere: exit"
	start := claim(tags{r1: ctx(), r2: num()})
	slot := func(n int) int { return slot31 + 1 - n }
	brought := tags{r0: num(), r1: ctx(), r2: num(), r3: ctx(), r4: kind(api.KindStack), r5: kind(api.KindData), slot(1): num(), slot(2): mask(15), slot(3): ctx()}
	with := func(v int, tag api.Tag) pair {
		return paired(t, text, nil, start, claim(tags{r0: num()}), claim(brought.and(tags{v: tag}))).with(func(c *pair) {
			c.p.Tables = []api.Table{{Rows: 2, Wide: 8}, {Rows: 2, Wide: 8}}
		})
	}
	with(r0, num()).wantProven(t)
	all := []api.Tag{num(), kind(api.KindStack), ctx(), kind(api.KindData), row(0), row(1), maybe(0), maybe(1)}
	for v, is := range brought {
		for _, tag := range all {
			null := v == r0 && tag.Kind == api.KindMaybe // r0 is the number 0
			switch other := with(v, tag); {
			case tag == is || null && v != r0:
				other.wantProven(t)
			case null:
				other.want(t, unsafe(api.TrapLeak, 2, 9))
			default:
				other.want(t, loose(0, 0, 7))
			}
		}
		if v != r0 {
			with(v, mask(0)).wantProven(t)
		}
	}
	for _, bits := range []int{1, 2, 8, 10, 15, 16, 17, 31, 128, 240, 255} {
		with(slot(1), mask(bits)).wantProven(t)
		if bits&15 == bits {
			with(slot(2), mask(bits)).wantProven(t)
		} else {
			with(slot(2), mask(bits)).want(t, loose(0, 0, 7))
		}
		with(slot(3), mask(bits)).want(t, loose(0, 0, 7))
		with(slot(4), mask(bits)).want(t, loose(0, 0, 7))
	}
}

// TestByOneBound (P13.1): of all bounds that an edge brings each is held as it is, and not one less.
func TestByOneBound(t *testing.T) {
	text := "r0 = 3\nr3 = r2\nr3 += 5\nr4 = r1\nr4 += r2\nu64 [r10 - 8] = r3\nif r3 s> 20 goto there\nexit\nthere: exit"
	start := claim(tags{r1: ctx(), r2: num()}, same(r2, ln), exactly(r1, 0), ranged(ln, 0, 100))
	l := tags{r0: num(), r1: ctx(), r2: num(), r3: num(), r4: ctx(), slot31: num()}
	c := paired(t, text, nil, start, claim(tags{r0: num()}), claim(l))
	all := c.wantProven(t).Post(0, 0).Cons()
	if len(all) < 40 {
		t.Fatalf("%d bounds", len(all))
	}
	c.more(2, all).wantProven(t)
	for _, b := range all {
		c.more(2, cons(b)).wantProven(t)
		b.C--
		c.more(2, cons(b)).want(t, loose(0, 0, 6))
	}
	c.more(2, cons(con(r3, r2, 4))).want(t, loose(0, 0, 6))
	c.more(2, cons(con(r0, ghost0, 4))).want(t, cert(api.ErrGhost, 2))
}
