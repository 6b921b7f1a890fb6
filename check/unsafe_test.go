package check_test

import (
	"testing"

	"warrant/api"
)

// trap is an instruction that a step refuses, where r0 and r2 are numbers (r2 may be 0), r1 is a context that may be empty, r3 the data, and all else None.
type trap struct {
	e    api.Errno
	text string
}

func traps() []trap {
	return []trap{
		{api.TrapKind, "r0 = r9"}, {api.TrapKind, "r1 *= 2"}, {api.TrapKind, "r4 = u8 [r2]"}, {api.TrapBounds, "r4 = u8 [r1]"}, {api.TrapBounds, "u8 [r10] = 1"}, {api.TrapInit, "r4 = u64 [r10 - 8]"},
		{api.TrapWrite, "u8 [r3] = 1"}, {api.TrapDiv, "r0 /= r2"}, {api.TrapDiv, "w0 s%= w2"}, {api.TrapOff, "r1 += 1048577"}, {api.TrapLeak, "u32 [r10 - 8] = r1"}, {api.TrapCall, "call 99"}, {api.TrapCall, "call 7"},
	}
}

// The places in a block of three instructions: one of them is the one that is handed in.
func placed(text string) []string {
	return []string{text + "\nr5 = 1\nr5 = 2\n", "r5 = 1\n" + text + "\nr5 = 2\n", "r5 = 1\nr5 = 2\n" + text + "\n"}
}

// The rest of a program, whose first instruction begins a block: the one ahead is the last of its own.
const rest = "end: if r0 == 5 goto more\nexit\nmore: goto end"

// begun says all that is known at a beginning, and that r0 is a number and r3 the data.
func begun() api.Claim {
	return claim(tags{r0: num(), r1: ctx(), r2: num(), r3: kind(api.KindData)}, exactly(r1, 0), same(r2, ln), ranged(ln, 0, 100), exactly(r3, 0))
}

// early is a program whose first block ends with some instructions, from the number 2 on; late one whose third block is they, from 4 on.
func early(t *testing.T, text string) pair {
	t.Helper()
	n := claim(tags{r0: num()})
	return paired(t, "r0 = 0\nr3 = data 0\n"+text+rest, loops(rank(1, r0, 0, 0, 1)), claim(tags{r1: ctx(), r2: num()}, exactly(r1, 0), same(r2, ln), ranged(ln, 0, 100)), n, n, n)
}

func late(t *testing.T, text string) pair {
	t.Helper()
	n := claim(tags{r0: num()})
	return paired(t, "r0 = 0\nr3 = data 0\nif r2 s>= 0 goto later\nexit\nlater: "+text+rest, loops(rank(3, r0, 0, 0, 1)), claim(tags{r1: ctx(), r2: num()}, exactly(r1, 0), same(r2, ln), ranged(ln, 0, 100)), n, begun(), n, n, n)
}

// TestTraps (P13.1): each trap, in the first block and in a later one, as the block's first, a middle and its last instruction.
func TestTraps(t *testing.T) {
	for _, c := range traps() {
		for at, text := range placed(c.text) {
			early(t, text).want(t, unsafe(c.e, 0, 2+at))
			late(t, text).want(t, unsafe(c.e, 2, 4+at))
		}
	}
	for _, text := range placed("r4 = r2") {
		early(t, text).wantProven(t)
		late(t, text).wantProven(t)
	}
}

// TestTrapsAtOnce (P13.1): a trap of the very first instruction.
func TestTrapsAtOnce(t *testing.T) {
	first := claim(tags{r1: ctx(), r2: num()}, exactly(r1, 0), same(r2, ln), ranged(ln, 0, 100))
	for _, c := range []trap{{api.TrapKind, "r0 = r9"}, {api.TrapBounds, "r0 = u8 [r1]"}, {api.TrapInit, "r0 = u8 [r10 - 1]"}, {api.TrapDiv, "r2 %= r2"}, {api.TrapOff, "r1 += -1048577"}, {api.TrapLeak, "u8 [r10 - 8] = r1"}, {api.TrapCall, "call 1"}} {
		paired(t, c.text+"\nexit", nil, first).want(t, unsafe(c.e, 0, 0))
	}
	paired(t, "exit", nil, first).want(t, unsafe(api.TrapLeak, 0, 0))
}

// TestTrapsOfTwo (P13.1): of two instructions that are refused the first one is told, of two blocks the lower one's.
func TestTrapsOfTwo(t *testing.T) {
	for _, c := range traps() {
		if c.e == api.TrapDiv {
			continue
		}
		late(t, c.text+"\nr0 /= r2\n").want(t, unsafe(c.e, 2, 4))
		late(t, "r0 /= r2\n"+c.text+"\n").want(t, unsafe(api.TrapDiv, 2, 4))
	}
	c := late(t, "r0 /= r2\nr4 = 5\n")
	c.tagged(1, r0, mask(0)).want(t, unsafe(api.TrapLeak, 1, 3))
	c.tagged(4, r0, mask(0)).want(t, unsafe(api.TrapDiv, 2, 4))
	late(t, "r4 = 5\n").tagged(4, r0, mask(0)).want(t, unsafe(api.TrapLeak, 4, 6))
}

// TestExits (P13.1): an exit where r0 is no number.
func TestExits(t *testing.T) {
	c := paired(t, "r0 = 0\nif r2 == 5 goto other\nexit\nother: exit", nil, claim(tags{r2: num()}), claim(tags{r0: num()}), claim(tags{r0: num()}))
	c.wantProven(t)
	c.tagged(1, r0, mask(0)).want(t, unsafe(api.TrapLeak, 1, 2))
	c.tagged(2, r0, mask(0)).want(t, unsafe(api.TrapLeak, 2, 3))
	for _, text := range []string{"r0 = r1\nexit", "r0 = r10\nexit", "r0 = data 0\nexit"} {
		paired(t, text, nil, claim(tags{r1: ctx(), r2: num()})).want(t, unsafe(api.TrapLeak, 0, 1))
	}
	table := func(c *pair) { c.p.Tables = []api.Table{{Rows: 4, Wide: 8}} }
	paired(t, "r1 = 0\ncall 7\nexit", nil, claim(tags{r2: num()})).with(table).want(t, unsafe(api.TrapLeak, 0, 2))
	paired(t, "r1 = 0\nr2 = 3\ncall 7\nexit", nil, claim(tags{r2: num()})).with(table).want(t, unsafe(api.TrapLeak, 0, 3))
}

// TestJumps (P13.1): a jump that is refused, whichever edge is asked for, and ahead of its edges, which do not hold either.
func TestJumps(t *testing.T) {
	n := claim(tags{r0: num()})
	for _, jump := range []string{"if r9 == 0 goto other", "if r1 == 5 goto other", "if r2 > r1 goto other", "if w1 s< w2 goto other", "if r10 == 0 goto other", "if r1 & r1 goto other"} {
		c := paired(t, "r0 = 0\n"+jump+"\nexit\nother: exit", nil, claim(tags{r1: ctx(), r2: num()}), n, n)
		c.want(t, unsafe(api.TrapKind, 0, 1))
		c.claimed(1, dead()).want(t, unsafe(api.TrapKind, 0, 1))
		c.claimed(2, dead()).want(t, unsafe(api.TrapKind, 0, 1))
		c.claimed(1, dead()).claimed(2, dead()).want(t, unsafe(api.TrapKind, 0, 1))
	}
	c := paired(t, "r0 = 0\nif r2 == 5 goto other\nif r2 == r9 goto other\nexit\nother: exit", nil, claim(tags{r2: num()}), claim(tags{r0: num(), r2: num()}), n, n)
	c.want(t, unsafe(api.TrapKind, 1, 2))
	c.claimed(1, dead()).want(t, loose(0, 1, 1))
}

// TestBehindDead (P13.1): a block that is Dead is passed over, with its instructions and edges; those behind it are not.
func TestBehindDead(t *testing.T) {
	n := claim(tags{r0: num()})
	text := "r0 = 1\nif r0 == 2 goto never\nif r0 == 3 goto never\nr0 = r9\nexit\nnever: r0 = u8 [r9]\nif r9 == 0 goto last\nr1 = r9\nlast: exit"
	c := paired(t, text, nil, claim(nil), claim(tags{r0: num()}, exactly(r0, 1)), claim(nil), dead(), dead(), n)
	c.want(t, unsafe(api.TrapKind, 2, 3))
	c.tagged(2, r7+2, num()).want(t, loose(1, 1, 2))
	c = c.with(func(c *pair) { c.p.Code[3].Src = 0 }).tagged(2, r0, num())
	c.wantProven(t)
	c.claimed(5, dead()).wantProven(t)
	c.claimed(5, claim(nil)).want(t, unsafe(api.TrapLeak, 5, 8)) // though no run comes there
	c.claimed(3, claim(nil)).want(t, unsafe(api.TrapKind, 3, 5))
	c.claimed(4, claim(nil)).want(t, unsafe(api.TrapKind, 4, 7))
}

// TestAheadOfEdges (P13.1): in one block what is refused comes ahead of an edge that does not hold; of two blocks the lower one's comes first.
func TestAheadOfEdges(t *testing.T) {
	c := summing(t)
	outside := c.less(2, r3, r1).more(2, atMost(r3, r1)) // refused in block 2
	outside.more(1, cons(con(r3, 0, 50))).want(t, unsafe(api.TrapBounds, 2, 4))
	outside.claimed(3, dead()).want(t, loose(1, 0, 3))
	outside.more(1, cons(con(0, ln, -1))).want(t, loose(0, 0, 2))
	outside.more(0, cons(con(ln, 0, 99))).want(t, unstarted())
	c.tagged(3, r0, mask(0)).want(t, unsafe(api.TrapLeak, 3, 8))
	c.tagged(3, r0, mask(0)).more(1, cons(con(r3, 0, 50))).want(t, loose(2, 0, 7))
}
