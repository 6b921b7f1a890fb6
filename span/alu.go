package span

import (
	"warrant/api"
	"warrant/word"
)

// sole is what an operation makes of two numbers, if the operands that it looks at are single, and it is no error.
func sole(op int, narrow bool, a, b ends) (int, bool) {
	switch op {
	case api.OpNeg:
		b = a
	case api.OpMov:
		a = b
	}
	if !a.single() || !b.single() {
		return 0, false
	}
	v, e := word.Alu(op, narrow, a.lo, b.lo)
	return v, e == api.OK
}

// wide holds the answers of 64 bits.
func wide(op int, a, b ends) ends {
	r, is := answer(operands(op, a, b, counts(b, b, 63), 0))
	if !is {
		return all()
	}
	return r
}

// halved holds the answers of 32 bits: what 64 bits make of the low halves, if that stays within 32 bits, and no operand has a sign there.
func halved(op int, a, b ends) ends {
	half, x, y := naturals(32), a.low(), b.low()
	op, x, y = operands(op, x, y, counts(b, y, 31), 1<<32)
	if plain := signless(op); plain != op {
		if room := naturals(31); !x.within(room) || !y.within(room) {
			return half
		}
		op = plain
	}
	r, is := answer(op, x, y)
	if !is || !r.within(half) {
		return half
	}
	return r
}

// operands are an operation and its operands as its rows want them: a shift's counts; OpNeg as the difference from zero, or from another number that counts as 0.
func operands(op int, a, b, counts ends, zero int) (int, ends, ends) {
	switch op {
	case api.OpLsh, api.OpRsh, api.OpArsh:
		return op, a, counts
	case api.OpNeg:
		return api.OpSub, ends{zero, zero}, a
	}
	return op, a, b
}

// counts are those of a shift by b, from 0 to a highest one; low is b without what such a shift does not look at.
func counts(b, low ends, highest int) ends {
	room := ends{0, highest}
	switch {
	case b.single():
		c := b.lo & highest
		return ends{c, c}
	case low.within(room):
		return low
	}
	return room
}

// signless is the operation that does the same without signs, of numbers that are not below 0.
func signless(op int) int {
	switch op {
	case api.OpSdiv:
		return api.OpDiv
	case api.OpSmod:
		return api.OpMod
	case api.OpArsh:
		return api.OpRsh
	}
	return op
}

// answer is what the first row makes that can; false, if none can.
func answer(op int, a, b ends) (ends, bool) {
	of, with := a.signs(), b.signs()
	for _, line := range rows(op) {
		if !of.tell(line.a) || !with.tell(line.b) {
			continue
		}
		if r, is := line.join(a, b); is {
			return r, true
		}
	}
	return ends{}, false
}
