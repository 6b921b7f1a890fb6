package span

import (
	"math/bits"

	"warrant/api"
)

// join makes the answer's ends of the operands': false, if it can't.
type join func(a, b ends) (ends, bool)

// row does what an operation does, where this is told of the signs of its operands.
type row struct {
	a, b signs
	join join
}

// rows are an operation's lines in the chapter's table, in their order. OpNeg has none: it is done as OpSub.
func rows(op int) []row {
	switch op {
	case api.OpMov:
		return []row{{open, open, func(_, b ends) (ends, bool) { return b, true }}}
	case api.OpAdd:
		return []row{{open, open, corners(plus)}}
	case api.OpSub:
		return []row{{open, open, corners(minus)}}
	case api.OpMul:
		return []row{{open, open, corners(times)}}
	case api.OpDiv, api.OpMod, api.OpSdiv, api.OpSmod:
		return divisions(op)
	case api.OpAnd, api.OpOr, api.OpXor:
		return bitwise(op)
	case api.OpLsh, api.OpRsh, api.OpArsh:
		return shifts(op)
	}
	return nil
}

func divisions(op int) []row {
	switch op {
	case api.OpDiv:
		return []row{
			{natural, positive, corners(quotient)},
			{open, positive, shares},
			{open, negative, func(_, _ ends) (ends, bool) { return ends{0, 1}, true }},
		}
	case api.OpMod:
		return []row{
			{natural, negative, func(a, _ ends) (ends, bool) { return a, true }},
			{natural, positive, func(a, b ends) (ends, bool) { return a, a.hi < b.lo }},
			{natural, positive, func(a, b ends) (ends, bool) { return ends{0, min(a.hi, b.hi-1)}, true }},
			{open, positive, func(_, b ends) (ends, bool) { return ends{0, b.hi - 1}, true }},
		}
	case api.OpSdiv:
		return []row{{open, apart, corners(quotient)}}
	}
	return []row{{open, apart, signedRest}}
}

// shares are the quotients of all numbers without sign: they fit, if the divisor is 2 at least.
func shares(_, b ends) (ends, bool) {
	if b.lo < 2 {
		return ends{}, false
	}
	return ends{0, int(uint64(1<<64-1) / uint64(b.lo))}, true
}

// signedRest is nearer to 0 than the divisor, and no further from it than the dividend, on whose side it is. Both ends of the divisor are on one side.
func signedRest(a, b ends) (ends, bool) {
	far := max(b.hi-1, -(b.lo + 1))
	return ends{min(0, max(-far, a.lo)), max(0, min(far, a.hi))}, true
}

func bitwise(op int) []row {
	switch op {
	case api.OpAnd:
		return []row{
			{natural, natural, func(a, b ends) (ends, bool) { return ends{0, min(a.hi, b.hi)}, true }},
			{natural, open, func(a, _ ends) (ends, bool) { return ends{0, a.hi}, true }},
			{open, natural, func(_, b ends) (ends, bool) { return ends{0, b.hi}, true }},
			{negative, negative, func(a, b ends) (ends, bool) { return ends{least, min(a.hi, b.hi)}, true }},
		}
	case api.OpOr:
		return []row{
			{natural, natural, func(a, b ends) (ends, bool) { return ends{max(a.lo, b.lo), filled(a.hi | b.hi)}, true }},
			{negative, negative, func(a, b ends) (ends, bool) { return ends{max(a.lo, b.lo), -1}, true }},
			{negative, open, func(a, _ ends) (ends, bool) { return ends{a.lo, -1}, true }},
			{open, negative, func(_, b ends) (ends, bool) { return ends{b.lo, -1}, true }},
		}
	}
	return []row{{natural, natural, func(a, b ends) (ends, bool) { return ends{0, filled(a.hi | b.hi)}, true }}}
}

// filled is v with a 1 in all places below its highest one.
func filled(v int) int { return naturals(bits.Len64(uint64(v))).hi }

// shifts has rows whose second operand are the counts.
func shifts(op int) []row {
	switch op {
	case api.OpLsh:
		return []row{
			{open, open, alike},
			{natural, open, corners(left)},
		}
	case api.OpRsh:
		return []row{
			{natural, open, corners(right)},
			{open, positive, func(_, counts ends) (ends, bool) { return naturals(64 - counts.lo), true }},
		}
	}
	return []row{{open, open, corners(right)}}
}

// alike shifts to the left, if all counts are one.
func alike(a, counts ends) (ends, bool) {
	if !counts.single() {
		return ends{}, false
	}
	return corners(left)(a, counts)
}
