package span_test

import (
	"math/big"

	"warrant/api"
	"warrant/word"
)

// The chapter's words once more, in whole numbers of any size and line by line: what the package answers is held against these.

const (
	top      = api.Most
	least    = -1 << 63
	greatest = 1<<63 - 1
	half     = 1<<32 - 1
)

var (
	operations = []int{api.OpAdd, api.OpSub, api.OpMul, api.OpDiv, api.OpMod, api.OpSdiv, api.OpSmod, api.OpOr, api.OpAnd, api.OpXor, api.OpLsh, api.OpRsh, api.OpArsh, api.OpNeg, api.OpMov}
	both       = []bool{false, true}
)

func num(v int) *big.Int { return big.NewInt(int64(v)) }

func pow(k int) *big.Int { return new(big.Int).Lsh(big.NewInt(1), uint(k)) }

func add(a, b *big.Int) *big.Int { return new(big.Int).Add(a, b) }

func sub(a, b *big.Int) *big.Int { return new(big.Int).Sub(a, b) }

func mul(a, b *big.Int) *big.Int { return new(big.Int).Mul(a, b) }

func neg(a *big.Int) *big.Int { return new(big.Int).Neg(a) }

// cut is a by b, cut towards 0; down is a by 2^k, rounded down.
func cut(a, b *big.Int) *big.Int { return new(big.Int).Quo(a, b) }

func down(a *big.Int, k int) *big.Int { return new(big.Int).Rsh(a, uint(k)) }

func above(a *big.Int, v int) bool { return a.Cmp(num(v)) > 0 }

func below(a *big.Int, v int) bool { return a.Cmp(num(v)) < 0 }

func lesser(first *big.Int, l ...*big.Int) *big.Int {
	for _, x := range l {
		if x.Cmp(first) < 0 {
			first = x
		}
	}
	return first
}

func greater(first *big.Int, l ...*big.Int) *big.Int {
	for _, x := range l {
		if x.Cmp(first) > 0 {
			first = x
		}
	}
	return first
}

func full() api.Span { return api.Span{NoLo: true, NoHi: true} }

// sound is the section Words.
func sound(s api.Span) bool {
	if s.NoLo && s.Lo != 0 || s.NoHi && s.Hi != 0 {
		return false
	}
	if s.Lo < -top || s.Lo > top || s.Hi < -top || s.Hi > top {
		return false
	}
	return s.NoLo || s.NoHi || s.Lo <= s.Hi
}

// limits are a span's ends, as it is read.
func limits(s api.Span) (lo, hi *big.Int) {
	lo, hi = num(least), num(greatest)
	if !sound(s) {
		return lo, hi
	}
	if !s.NoLo {
		lo = num(s.Lo)
	}
	if !s.NoHi {
		hi = num(s.Hi)
	}
	return lo, hi
}

// reach is the span from l to h.
func reach(l, h *big.Int) api.Span {
	var s api.Span
	if below(l, -top) {
		s.NoLo = true
	} else {
		s.Lo = int(lesser(l, num(top)).Int64())
	}
	if above(h, top) {
		s.NoHi = true
	} else {
		s.Hi = int(greater(h, num(-top)).Int64())
	}
	return s
}

func single(s api.Span) bool { return sound(s) && !s.NoLo && !s.NoHi && s.Lo == s.Hi }

func exactly(v int) api.Span { return reach(num(v), num(v)) }

// low is P6.2.
func low(a api.Span) api.Span {
	lo, hi := limits(a)
	if !below(lo, 0) && !above(hi, half) {
		return a
	}
	if down(lo, 32).Cmp(down(hi, 32)) == 0 {
		rest := func(x *big.Int) *big.Int { return new(big.Int).Mod(x, pow(32)) }
		return reach(rest(lo), rest(hi))
	}
	return reach(num(0), num(half))
}

// notZero is P6.3.
func notZero(narrow bool, a api.Span) bool {
	if narrow {
		return low(a).Lo > 0
	}
	lo, hi := limits(a)
	return above(lo, 0) || below(hi, 0)
}

// bytesOf is P6.4.
func bytesOf(size int, signed bool) api.Span {
	switch {
	case size != 1 && size != 2 && size != 4:
		return full()
	case signed:
		return reach(neg(pow(8*size-1)), sub(pow(8*size-1), num(1)))
	}
	return reach(num(0), sub(pow(8*size), num(1)))
}

// alone tells P6.5's and P6.6's first sentence: the number, of single operands.
func alone(op int, narrow bool, a, b api.Span) (int, bool) {
	if op != api.OpMov && !single(a) || op != api.OpNeg && !single(b) {
		return 0, false
	}
	v, e := word.Alu(op, narrow, a.Lo, b.Lo)
	return v, e == api.OK
}

// line is a row of P6.5's table: its condition, and what it writes.
type line struct {
	is     bool
	lo, hi func() *big.Int
}

func (l line) ends() (lo, hi *big.Int) { return l.lo(), l.hi() }

// fits tells whether both ends that are written are numbers.
func (l line) fits() line {
	if !l.is {
		return l
	}
	for _, x := range []*big.Int{l.lo(), l.hi()} {
		if below(x, least) || above(x, greatest) {
			l.is = false
		}
	}
	return l
}

func given(x *big.Int) func() *big.Int { return func() *big.Int { return x } }

// table is P6.5's, of operands with these ends, and counts from cl to ch.
func table(op int, alo, ahi, blo, bhi *big.Int, cl, ch int) []line {
	zero, minus := given(num(0)), given(num(-1))
	one := func(lo, hi func() *big.Int) []line { return []line{line{true, lo, hi}.fits()} }
	switch op {
	case api.OpMov:
		return one(given(blo), given(bhi))
	case api.OpAdd:
		return one(given(add(alo, blo)), given(add(ahi, bhi)))
	case api.OpSub:
		return one(given(sub(alo, bhi)), given(sub(ahi, blo)))
	case api.OpMul:
		l := []*big.Int{mul(alo, bhi), mul(ahi, blo), mul(ahi, bhi)}
		return one(given(lesser(mul(alo, blo), l...)), given(greater(mul(alo, blo), l...)))
	case api.OpNeg:
		return one(given(neg(ahi)), given(neg(alo)))
	case api.OpDiv:
		return []line{
			{!below(alo, 0) && !below(blo, 1), func() *big.Int { return cut(alo, bhi) }, func() *big.Int { return cut(ahi, blo) }},
			{!below(blo, 2), zero, func() *big.Int { return cut(sub(pow(64), num(1)), blo) }},
			{below(bhi, 0), zero, given(num(1))},
		}
	case api.OpMod:
		return []line{
			{!below(alo, 0) && (below(bhi, 0) || ahi.Cmp(blo) < 0), given(alo), given(ahi)},
			{!below(alo, 0) && !below(blo, 1), zero, given(lesser(ahi, sub(bhi, num(1))))},
			{!below(blo, 1), zero, given(sub(bhi, num(1)))},
		}
	case api.OpSdiv, api.OpSmod:
		return signedTable(op, alo, ahi, blo, bhi)
	case api.OpAnd:
		return []line{
			{!below(alo, 0) && !below(blo, 0), zero, given(lesser(ahi, bhi))},
			{!below(alo, 0), zero, given(ahi)},
			{!below(blo, 0), zero, given(bhi)},
			{below(ahi, 0) && below(bhi, 0), given(num(least)), given(lesser(ahi, bhi))},
		}
	case api.OpOr:
		return []line{
			{!below(alo, 0) && !below(blo, 0), given(greater(alo, blo)), func() *big.Int { return filled(ahi, bhi) }},
			{below(ahi, 0) && below(bhi, 0), given(greater(alo, blo)), minus},
			{below(ahi, 0), given(alo), minus},
			{below(bhi, 0), given(blo), minus},
		}
	case api.OpXor:
		return []line{{!below(alo, 0) && !below(blo, 0), zero, func() *big.Int { return filled(ahi, bhi) }}}
	}
	return shiftTable(op, alo, ahi, cl, ch)
}

// filled is 2^k - 1, k being the least with both below 2^k.
func filled(a, b *big.Int) *big.Int {
	k := 0
	for a.Cmp(pow(k)) >= 0 || b.Cmp(pow(k)) >= 0 {
		k++
	}
	return sub(pow(k), num(1))
}

func signedTable(op int, alo, ahi, blo, bhi *big.Int) []line {
	apart := !below(blo, 1) || !above(bhi, -1)
	if op == api.OpSdiv {
		if !apart || alo.Cmp(num(least)) == 0 && !above(blo, -1) && !below(bhi, -1) {
			return nil
		}
		l := []*big.Int{cut(alo, bhi), cut(ahi, blo), cut(ahi, bhi)}
		return []line{{true, given(lesser(cut(alo, blo), l...)), given(greater(cut(alo, blo), l...))}}
	}
	m := sub(greater(new(big.Int).Abs(blo), new(big.Int).Abs(bhi)), num(1))
	lo, hi := num(0), num(0)
	if below(alo, 0) {
		lo = neg(lesser(m, neg(alo)))
	}
	if above(ahi, 0) {
		hi = lesser(m, ahi)
	}
	return []line{{apart, given(lo), given(hi)}}
}

func shiftTable(op int, alo, ahi *big.Int, cl, ch int) []line {
	up := func(x *big.Int, c int) func() *big.Int { return given(mul(x, pow(c))) }
	by := func(x *big.Int, c int) func() *big.Int { return given(down(x, c)) }
	switch op {
	case api.OpLsh:
		return []line{
			line{cl == ch, up(alo, cl), up(ahi, cl)}.fits(),
			line{!below(alo, 0), up(alo, cl), up(ahi, ch)}.fits(),
		}
	case api.OpRsh:
		return []line{
			{!below(alo, 0), by(alo, ch), by(ahi, cl)},
			{cl >= 1, given(num(0)), func() *big.Int { return sub(pow(64-cl), num(1)) }},
		}
	case api.OpArsh:
		l := line{true, by(alo, ch), by(ahi, cl)}
		if below(alo, 0) {
			l.lo = by(alo, cl)
		}
		if below(ahi, 0) {
			l.hi = by(ahi, ch)
		}
		return []line{l}
	}
	return nil
}

// first is what the first row writes whose condition holds.
func first(ls []line) (lo, hi *big.Int, is bool) {
	for _, l := range ls {
		if l.is {
			lo, hi = l.ends()
			return lo, hi, true
		}
	}
	return nil, nil, false
}

// counts are P6.5's and P6.6's, for a width of 64 or 32; l is b, or the low half of it.
func counts(b, l api.Span, width int) (cl, ch int) {
	if single(b) {
		c := int(new(big.Int).Mod(num(b.Lo), num(width)).Int64())
		return c, c
	}
	lo, hi := limits(l)
	if !below(lo, 0) && !above(hi, width-1) {
		return l.Lo, l.Hi
	}
	return 0, width - 1
}

// alu is P6.5 and P6.6.
func alu(op int, narrow bool, a, b api.Span) api.Span {
	if v, is := alone(op, narrow, a, b); is {
		return exactly(v)
	}
	if narrow {
		return aluLow(op, a, b)
	}
	alo, ahi := limits(a)
	blo, bhi := limits(b)
	cl, ch := counts(b, b, 64)
	if lo, hi, is := first(table(op, alo, ahi, blo, bhi, cl, ch)); is {
		return reach(lo, hi)
	}
	return full()
}

// aluLow is P6.6, where not both operands are single.
func aluLow(op int, a, b api.Span) api.Span {
	cl, ch := counts(b, low(b), 32)
	alo, ahi := limits(low(a))
	blo, bhi := limits(low(b))
	rows := func(op int) (lo, hi *big.Int, is bool) { return first(table(op, alo, ahi, blo, bhi, cl, ch)) }
	var lo, hi *big.Int
	is := false
	switch op {
	case api.OpMov:
		return low(b)
	case api.OpRsh:
		lo, hi, is = rows(op)
	case api.OpLsh:
		lo, hi = mul(alo, pow(cl)), mul(ahi, pow(ch))
		is = !above(hi, half)
	case api.OpNeg:
		lo, hi, is = sub(pow(32), ahi), sub(pow(32), alo), !below(alo, 1)
	case api.OpArsh:
		if below(ahi, 1<<31) {
			lo, hi, is = rows(op)
		}
	case api.OpSdiv, api.OpSmod:
		if below(ahi, 1<<31) && below(bhi, 1<<31) {
			lo, hi, is = rows(map[int]int{api.OpSdiv: api.OpDiv, api.OpSmod: api.OpMod}[op])
		}
	case api.OpAdd, api.OpSub, api.OpMul, api.OpDiv, api.OpMod, api.OpAnd, api.OpOr, api.OpXor:
		lo, hi, is = rows(op)
	}
	if !is || below(lo, 0) || above(hi, half) {
		return reach(num(0), num(half))
	}
	return reach(lo, hi)
}

// swap is P6.7.
func swap(size int, turned bool, a api.Span) api.Span {
	if size != 16 && size != 32 && size != 64 {
		return full()
	}
	if single(a) {
		return exactly(word.Swap(size, turned, a.Lo))
	}
	lo, hi := limits(a)
	switch {
	case turned && size == 64:
		return full()
	case turned && size == 32:
		return reach(num(0), num(half))
	case size == 64:
		return reach(lo, hi)
	case size == 32:
		return low(a)
	case !turned && !below(lo, 0) && !above(hi, 1<<16-1):
		return a
	}
	return reach(num(0), num(1<<16-1))
}

// extend is P6.8.
func extend(size int, narrow bool, a api.Span) api.Span {
	if size != 8 && size != 16 && size != 32 || size == 32 && narrow {
		return full()
	}
	if single(a) {
		return exactly(word.Extend(size, narrow, a.Lo))
	}
	h := 1 << (size - 1)
	lo, hi := limits(a)
	in := !below(lo, -h) && !above(hi, h-1)
	switch {
	case in && !narrow, in && !below(lo, 0):
		return a
	case in && below(hi, 0):
		return reach(add(lo, pow(32)), add(hi, pow(32)))
	case narrow:
		return reach(num(0), num(half))
	}
	return reach(num(-h), num(h-1))
}
