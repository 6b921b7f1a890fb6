package rank_test

import (
	"testing"

	"warrant/api"
)

// rising has a loop that counts r4 up to 101, at its head from 0 to 101; its rank is 101 - r4.
func rising(t *testing.T) pair {
	t.Helper()
	return paired(t, "r0 = 0\nr4 = 0\ntop: if r4 s> 100 goto out\nr4 += 1\ngoto top\nout: exit",
		loops(ranked(1, zero, r4, 101, 1)), claim(nil), claim(nums(r0, r4), ranged(r4, 0, 101)),
		claim(nums(r0, r4), ranged(r4, 0, 100), since(0, zero, r4)), claim(nums(r0)))
}

// TestLow (P14.1): m(B, A) that is below K, is K, is K + 1, is not there.
func TestLow(t *testing.T) {
	c := rising(t)
	c.falling(0, 102, 1).wantCounts(t, counts(103), counts(1, 103, 103, 1), 2+103+2*103+1)
	c.wantCounts(t, counts(102), counts(1, 102, 102, 1), 2+102+2*102+1)
	c.falling(0, 100, 1).want(t, unranked(0, 1, -1))
	c.falling(0, -api.MaxConst, 1).want(t, unranked(0, 1, -1))
	c.less(1, r4, 0).want(t, unranked(0, 1, -1))
	c.less(1, r4, 0).falling(0, api.MaxConst, 1).want(t, unranked(0, 1, -1))
	one := alone(t) // here the bound of 0 less r3 is -1
	one.falling(0, 0, 3).wantBounded(t)
	one.falling(0, -1, 3).wantBounded(t)
	one.falling(0, -2, 3).want(t, unranked(0, 1, -1))
}

// TestHigh (P14.1): m(A, B) that is not there; where it is, it may be as great as it likes.
func TestHigh(t *testing.T) {
	one := alone(t)
	one.less(1, r3, 0).want(t, unranked(0, 1, -1))
	one.less(1, r3, 0).falling(0, api.MaxConst, 1).want(t, unranked(0, 1, -1))
	great := one.less(1, r3, 0).more(1, most(r3, api.MaxConst))
	great.want(t, unbounded())
	great.with(func(c *pair) { c.p.Code[2].Imm = 1 << 30 }).falling(0, 0, 1<<30).wantCounts(t, counts(1025), counts(1, 1025, 1), 2+2*1025+1)
}

// meeting has a loop in which r3 falls by 1 and r4 rises by 2, till they meet.
func meeting(t *testing.T) pair {
	t.Helper()
	return paired(t, "r0 = 0\nr3 = 100\nr4 = 0\ntop: r3 -= 1\nr4 += 2\nif r3 s> r4 goto top\nexit",
		loops(ranked(1, r3, r4, 0, 3)), claim(nil), claim(nums(r0, r3, r4), least(r4, 0), most(r3, 100), cons(con(r4, r3, -1))), claim(nums(r0)))
}

// TestFall (P14.1): m(A, gA) and m(gB, B) that add up to -D, to less, to -D + 1; with both in it, and with one that is 0.
func TestFall(t *testing.T) {
	c := meeting(t)
	c.wantCounts(t, counts(34), counts(1, 34, 1), 3+3*34+1)
	c.falling(0, 0, 2).wantCounts(t, counts(51), counts(1, 51, 1), 3+3*51+1)
	c.falling(0, 0, 4).want(t, unranked(0, 1, 0))
	c.falling(0, 0, api.MaxConst).want(t, unranked(0, 1, 0))
	c.by(0, r3, zero, 0, 1).wantCounts(t, counts(101), counts(1, 101, 1), 3+3*101+1)
	c.by(0, r3, zero, 0, 2).want(t, unranked(0, 1, 0))
	c.by(0, zero, r4, 100, 2).wantCounts(t, counts(51), counts(1, 51, 1), 3+3*51+1)
	c.by(0, zero, r4, 100, 3).want(t, unranked(0, 1, 0))
	coding := func(at, imm int) pair { return c.with(func(c *pair) { c.p.Code[at].Imm = imm }) }
	coding(3, 0).falling(0, 0, 2).wantBounded(t)
	coding(3, 0).falling(0, 0, 3).want(t, unranked(0, 1, 0))
	coding(4, 0).falling(0, 0, 1).wantBounded(t)
	coding(4, 0).falling(0, 0, 2).want(t, unranked(0, 1, 0))
	coding(3, 0).with(func(c *pair) { c.p.Code[4].Imm = 0 }).falling(0, 0, 1).want(t, unranked(0, 1, 0))
}

// TestOneRises (P14.1): B may fall too, as long as A falls by more.
func TestOneRises(t *testing.T) {
	apart := cons(con(r3, r4, 100), con(r4, r3, -1))
	c := paired(t, "r0 = 0\nr3 = 100\nr4 = 0\ntop: if r4 s< -900 goto out\nr3 -= 5\nr4 -= 2\nif r3 s> r4 goto top\nout: exit",
		loops(ranked(1, r3, r4, 0, 3)), claim(nil), claim(nums(r0, r3, r4), ranged(r4, -902, 0), apart),
		claim(nums(r0, r3, r4), ranged(r4, -900, 0), apart, since(0, r3, r4)), claim(nums(r0)))
	c.wantCounts(t, counts(34), counts(1, 34, 34, 1), 3+34+3*34+1)
	c.falling(0, 0, 4).want(t, unranked(0, 2, 0))
}

// TestNoFall (P14.1): m(A, gA), or m(gB, B), that is not there: A or B went on by as much as it likes, the other one by enough.
func TestNoFall(t *testing.T) {
	text := "r0 = 0\nr3 = 1\nr4 = 1\nr5 = %s\nr6 = r2\ntop: r4 = r5\nr3 = r4\nr5 = r6\nif r5 %s r4 goto top\nexit"
	made := func(first, sign string, c api.Con) pair {
		keep := claim(nums(r0, r3, r4, r5, r6), same(r3, r4), cons(c))
		return paired(t, sprintf(text, first, sign), loops(ranked(1, r3, r4, 0, 1)), claim(nums(r2)), keep, claim(nums(r0)))
	}
	made("2", "s>", con(r4, r5, -1)).want(t, unranked(0, 1, 0))
	made("0", "s<", con(r5, r4, -1)).want(t, unranked(0, 1, 0))
}

// forked has a loop with two edges back, from two blocks: r8 falls by 1 on each way.
func forked(t *testing.T) pair {
	t.Helper()
	at := func(cs ...[]api.Con) api.Claim { return claim(nums(r0, r8), append(cs, ranged(r8, 1, 9))...) }
	return paired(t, "r0 = 0\nr8 = 9\none: if r8 s<= 0 goto out\nif r0 == 5 goto other\nr8 -= 1\ngoto one\nother: r8 -= 1\ngoto one\nout: exit",
		loops(ranked(1, r8, zero, 0, 1)), claim(nil), claim(nums(r0, r8), ranged(r8, 0, 9)),
		at(since(0, r8, zero)), at(since(0, r8, zero)), at(since(0, r8, zero)), claim(nums(r0)))
}

// TestTwoBacks (P14.1): of two edges back the first one, in the order of the blocks, that does not fall.
func TestTwoBacks(t *testing.T) {
	c := forked(t)
	c.wantCounts(t, counts(10), counts(1, 10, 10, 10, 10, 1), 2+10+10+2*10+2*10+1)
	by := func(first, second int) pair {
		return c.with(func(c *pair) { c.p.Code[4].Imm, c.p.Code[6].Imm = first, second })
	}
	by(0, 1).want(t, unranked(0, 3, 0))
	by(1, 0).want(t, unranked(0, 4, 0))
	by(0, 0).want(t, unranked(0, 3, 0))
	c.falling(0, 0, 2).want(t, unranked(0, 3, 0))
}

// turning has a loop whose one block leads back to its head by both edges: r3 becomes some number from 0 to 100, and falls on one of them.
func turning(t *testing.T, sign string) pair {
	t.Helper()
	return paired(t, "r0 = 0\nr3 = 100\ngoto head\nback: r4 = r3\nr3 = r0\nr3 &= 63\nif r3 "+sign+" r4 goto head\nhead: if r3 s> 0 goto back\nexit",
		loops(ranked(2, r3, zero, 0, 1)), claim(nil), claim(nums(r0, r3), ranged(r3, 1, 100), since(0, r3, zero), cons(con(ghost0, r3, 0))),
		claim(nums(r0, r3), ranged(r3, 0, 100)), claim(nums(r0)))
}

// TestBothEdges (P14.1): of one block that leads back on both edges: the edge 0, the edge 1.
func TestBothEdges(t *testing.T) {
	turning(t, "s<").want(t, unranked(0, 1, 1))
	turning(t, "s>=").want(t, unranked(0, 1, 0))
	turning(t, "s<=").want(t, unranked(0, 1, 0))
	both := turning(t, "s<").with(func(c *pair) { c.p.Code[4] = api.Ins{Op: api.OpSub, Dst: 3, Imm: 1} })
	both.with(func(c *pair) { c.p.Code[5] = api.Ins{Op: api.OpAdd, Dst: 0, Imm: 1} }).wantCounts(t, counts(101), counts(1, 101, 101, 1), 3+4*101+101+1)
}

// TestDeadBack (P14.1): an edge back that no run goes is passed over, beside one that is gone, and alone; the head is asked of all the same.
func TestDeadBack(t *testing.T) {
	c := forked(t).with(func(c *pair) { c.p.Code[6].Imm = 0 })
	c.want(t, unranked(0, 4, 0))
	c.with(func(c *pair) {
		for k := 1; k < 4; k++ {
			c.d.Claims[k].Cons = append(c.d.Claims[k].Cons, ranged(r0, 0, 0)...)
		}
		c.d.Claims[4] = dead()
	}).wantCounts(t, counts(10), counts(1, 10, 10, 10, 0, 1), 2+10+10+2*10+1)
	once := paired(t, "r0 = 0\nr3 = 1\ntop: r3 -= 1\nif r3 s> 0 goto top\nexit",
		loops(ranked(1, r3, zero, -1, api.MaxConst)), claim(nil), claim(nums(r0, r3), ranged(r3, 1, 1)), claim(nums(r0)))
	once.wantCounts(t, counts(1), counts(1, 1, 1), 5)
	once.falling(0, -2, 1).want(t, unranked(0, 1, -1))
}

// skipped has two loops, the first of which no run comes to.
func skipped(t *testing.T) pair {
	t.Helper()
	return paired(t, "r0 = 0\nr3 = 9\nif r0 == 0 goto next\ntop: r3 -= 1\nif r3 s> 0 goto top\nr3 = 7\nnext: r3 -= 1\nif r3 s> 0 goto next\nexit",
		loops(ranked(1, r9, slot31, -7, 5), ranked(3, r3, zero, -1, 1)),
		claim(nil), dead(), dead(), claim(nums(r0, r3), ranged(r3, 1, 9)), claim(nums(r0)))
}

// TestDeadHead (P14.1, P14.2): a loop whose head's claim is Dead is passed over, whatever its rank is; not the one beside it.
func TestDeadHead(t *testing.T) {
	c := skipped(t)
	c.wantCounts(t, counts(0, 9), counts(1, 0, 0, 9, 1), 3+2*9+1)
	c.falling(1, -2, 1).want(t, unranked(1, 3, -1))
	c.falling(1, -1, 2).want(t, unranked(1, 3, 0))
	alive := c.with(func(c *pair) {
		c.d.Claims[1], c.d.Claims[2] = claim(nums(r0, r3), ranged(r3, 1, 9)), claim(nums(r0, r3))
	})
	alive.want(t, unranked(0, 1, -1))
	alive.by(0, r3, zero, -1, 1).wantCounts(t, counts(9, 9), counts(1, 9, 1, 9, 1), 3+2*9+1+2*9+1)
	alive.by(0, r3, zero, -1, 1).falling(1, -2, 1).want(t, unranked(1, 3, -1))
}

// nested has two loops, one within the other: the head 1 with the blocks 1 to 4, the head 2 with 2 and 3.
func nested(t *testing.T) pair {
	t.Helper()
	at := func(low3, low4 int, cs ...[]api.Con) api.Claim {
		return claim(nums(r0, r3, r4), append(cs, ranged(r3, low3, 9), ranged(r4, low4, 5))...)
	}
	return paired(t, "r0 = 0\nr3 = 9\nr4 = 5\nouter: if r3 s<= 0 goto out\ninner: if r4 s<= 0 goto back\nr4 -= 1\ngoto inner\nback: r3 -= 1\nr4 = 5\ngoto outer\nout: exit",
		loops(ranked(1, r3, zero, 0, 1), ranked(2, r4, zero, 0, 1)), claim(nil), at(0, 0), at(1, 0, since(0, r3, zero)),
		at(1, 1, since(0, r3, zero), since(1, r4, zero)), at(1, 0, since(0, r3, zero)), claim(nums(r0)))
}

// TestNested (P14.1, P14.2, P14.3): a loop within a loop, with the fault in the outer and in the inner one.
func TestNested(t *testing.T) {
	c := nested(t)
	c.wantCounts(t, counts(10, 6), counts(1, 10, 60, 60, 10, 1), 3+10+60+2*60+3*10+1)
	c.falling(0, -1, 1).want(t, unranked(0, 1, -1))
	c.falling(0, 0, 2).want(t, unranked(0, 4, 0))
	c.falling(1, -1, 1).want(t, unranked(1, 2, -1))
	c.falling(1, 0, 2).want(t, unranked(1, 3, 0))
	c.falling(0, 0, 2).falling(1, -1, 1).want(t, unranked(0, 4, 0))
	c.by(1, r3, zero, 0, 1).less(3, r4, ghost0+2).more(3, since(1, r3, zero)).want(t, unranked(1, 3, 0)) // r3 falls in the outer loop alone
	inner := c.by(0, r4, zero, 0, 1)
	for k := 2; k < 5; k++ {
		inner = inner.less(k, r3, ghost0).more(k, since(0, r4, zero))
	}
	inner.want(t, unranked(0, 4, 0)) // r4 falls in the inner loop, and is renewed behind it
}

// TestVariables (P14.1): ranks whose A or B is 0, the length, a register, a slot.
func TestVariables(t *testing.T) {
	keep := func(v int) api.Claim {
		return claim(nums(r0, r2, v), same(r2, ln), ranged(ln, 0, 100), ranged(v, 1, 9))
	}
	one := paired(t, "r0 = 0\nr3 = 9\ntop: r3 -= 1\nif r3 s> 0 goto top\nexit",
		loops(ranked(1, r3, zero, -1, 1)), claim(nums(r2), same(r2, ln), ranged(ln, 0, 100)), keep(r3), claim(nums(r0)))
	one.wantBounded(t)
	one.by(0, zero, r3, 9, 1).want(t, unranked(0, 1, 0)) // it rises
	one.by(0, r3, ln, 99, 1).wantBounded(t)
	one.by(0, r3, ln, 98, 1).want(t, unranked(0, 1, -1))
	one.by(0, r3, r2, 99, 1).wantBounded(t)
	one.by(0, ln, zero, 0, 1).want(t, unranked(0, 1, 0)) // it stays
	one.by(0, zero, ln, 100, 1).want(t, unranked(0, 1, 0))
	one.by(0, r2, ln, 0, 1).want(t, unranked(0, 1, 0))
	one.by(0, r3, r9, 0, 1).want(t, unranked(0, 1, -1)) // nothing is known of r9
	one.by(0, r9, r3, 0, 1).want(t, unranked(0, 1, -1))
	one.by(0, r3, slot31, 0, 1).want(t, unranked(0, 1, -1))
	slot := paired(t, "r0 = 0\nu64 [r10 - 256] = 9\ntop: r3 = u64 [r10 - 256]\nr3 -= 1\nu64 [r10 - 256] = r3\nif r3 s> 0 goto top\nexit",
		loops(ranked(1, slot0, zero, -1, 1)), claim(nums(r2), same(r2, ln), ranged(ln, 0, 100)), keep(slot0), claim(nums(r0)))
	slot.wantCounts(t, counts(9), counts(1, 9, 1), 2+4*9+1)
	slot.by(0, slot0, r2, 99, 1).wantBounded(t)
	slot.by(0, slot0, zero, -1, 2).want(t, unranked(0, 1, 0))
	slot.by(0, slot0+1, zero, 0, 1).want(t, unranked(0, 1, -1))
	last := slot.with(func(c *pair) {
		c.p.Code[1].Off, c.p.Code[2].Off, c.p.Code[4].Off = -8, -8, -8
		c.d.Claims[1] = keep(slot31)
	})
	last.by(0, slot31, ln, 99, 1).wantBounded(t)
	up := paired(t, "r0 = 0\nr3 = 0\ntop: r3 += 1\nif r3 s< r2 goto top\nexit",
		loops(ranked(1, ln, r3, 0, 1)), claim(nums(r2), same(r2, ln), ranged(ln, 0, 100)), claim(nums(r0, r2, r3), same(r2, ln), ranged(ln, 0, 100), ranged(r3, 0, 100)), claim(nums(r0)))
	up.want(t, unranked(0, 1, -1)) // the length may be 0, and r3 100
	up.by(0, ln, r3, 100, 1).wantCounts(t, counts(201), counts(1, 201, 1), 2+2*201+1)
	up.by(0, r2, r3, 100, 1).wantBounded(t)
	up.by(0, zero, r3, 100, 1).wantCounts(t, counts(101), counts(1, 101, 1), 2+2*101+1)
	up.by(0, zero, r3, 100, 2).want(t, unranked(0, 1, 0))
}
