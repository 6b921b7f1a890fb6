package word

import "warrant/api"

// word is 64 bits, read without a sign.
type word uint64

// join is what an operation makes of two words.
type join func(a, b word) word

// find is the operation of that number, for a second operand b.
func find(op int, b word) (join, api.Errno) {
	if j, is := plain()[op]; is {
		return j, api.OK
	}
	if j, is := shifts()[op]; is {
		return j, api.OK
	}
	j, is := divisions()[op]
	if !is {
		return nil, api.ErrArg
	}
	if b == 0 {
		return nil, api.TrapDiv
	}
	return j, api.OK
}

// Three maps and not one: they are made anew at each call, and one of up to eight operations needs no memory but the call's own.

// plain are those whose narrow answer is the low half of the other one.
func plain() map[int]join {
	return map[int]join{
		api.OpAdd: word.add,
		api.OpSub: word.sub,
		api.OpMul: word.mul,
		api.OpOr:  word.or,
		api.OpAnd: word.and,
		api.OpXor: word.xor,
		api.OpNeg: word.neg,
		api.OpMov: word.mov,
	}
}

func shifts() map[int]join {
	return map[int]join{
		api.OpLsh:  word.lsh,
		api.OpRsh:  word.rsh,
		api.OpArsh: word.arsh,
	}
}

// divisions are done where the second operand is not 0.
func divisions() map[int]join {
	return map[int]join{
		api.OpDiv:  word.div,
		api.OpMod:  word.mod,
		api.OpSdiv: word.sdiv,
		api.OpSmod: word.smod,
	}
}

// halves are the low halves of two operands, so made words that the operation of 64 bits does with them what is done in 32.
func halves(op int, a, b word) (word, word) {
	switch op {
	case api.OpLsh, api.OpRsh:
		return a.low(32), b.low(5)
	case api.OpArsh:
		return a.signed(32), b.low(5)
	case api.OpSdiv, api.OpSmod:
		return a.signed(32), b.signed(32)
	}
	return a.low(32), b.low(32)
}

// low is the low k bits; k is from 0 to 64.
func (a word) low(k int) word { return a & (1<<k - 1) }

// signed is the low k bits with their sign; k is from 1 to 64.
func (a word) signed(k int) word { return word(int64(a<<(64-k)) >> (64 - k)) }

func (a word) add(b word) word { return a + b }

func (a word) sub(b word) word { return a - b }

func (a word) mul(b word) word { return a * b }

func (a word) div(b word) word { return a / b }

func (a word) mod(b word) word { return a % b }

func (a word) sdiv(b word) word { return word(int64(a) / int64(b)) }

func (a word) smod(b word) word { return word(int64(a) % int64(b)) }

func (a word) or(b word) word { return a | b }

func (a word) and(b word) word { return a & b }

func (a word) xor(b word) word { return a ^ b }

func (a word) lsh(b word) word { return a << b.low(6) }

func (a word) rsh(b word) word { return a >> b.low(6) }

func (a word) arsh(b word) word { return word(int64(a) >> b.low(6)) }

func (a word) neg(word) word { return -a }

func (a word) mov(b word) word { return b }
