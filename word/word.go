// Package word is layer 1, the arithmetic of 64 and 32 bits: see shared/doc/01-word.md.
package word

import (
	"cmp"
	"math/bits"

	"warrant/api"
)

// Alu joins two numbers by an operation from api.OpAdd to api.OpMov (OpNeg: the negative of a): 64 bits, or (narrow) the low halves.
func Alu(op int, narrow bool, a, b int) (int, api.Errno) {
	x, y := word(a), word(b)
	if narrow {
		x, y = halves(op, x, y)
	}
	join, e := find(op, y)
	if e != api.OK {
		return 0, e
	}
	v := join(x, y)
	if narrow {
		v = v.low(32)
	}
	return int(v), api.OK
}

// Swap is the low size bits, with their bytes in the other order, if turned.
func Swap(size int, turned bool, a int) int {
	switch size {
	case 16, 32, 64:
	default:
		return 0
	}
	if turned {
		return int(bits.ReverseBytes64(uint64(a) << (64 - size)))
	}
	return int(word(a).low(size))
}

// Extend is the low size bits with their highest one as sign; narrow: the low half of that.
func Extend(size int, narrow bool, a int) int {
	switch {
	case size == 8, size == 16, size == 32 && !narrow:
	default:
		return 0
	}
	v := word(a).signed(size)
	if narrow {
		v = v.low(32)
	}
	return int(v)
}

// Holds tells whether a conditional jump's condition holds.
func Holds(op int, narrow bool, a, b int) bool {
	x, y := word(a), word(b)
	if narrow {
		// With their signs the halves keep their places in both orders, and share a bit just when they did.
		x, y = x.signed(32), y.signed(32)
	}
	switch op {
	case api.OpJset:
		return x&y != 0
	case api.OpJsgt, api.OpJsge, api.OpJslt, api.OpJsle:
		return stands(op, cmp.Compare(int(x), int(y)))
	}
	return stands(op, cmp.Compare(x, y))
}

// stands tells whether a condition holds of two numbers of which the first is below the second (order -1), the same (0) or above it (1).
func stands(op, order int) bool {
	switch op {
	case api.OpJle, api.OpJsle:
		order = -order
		fallthrough
	case api.OpJge, api.OpJsge:
		if order > 0 {
			return true
		}
		fallthrough
	case api.OpJeq:
		return order == 0
	case api.OpJlt, api.OpJslt:
		order = -order
		fallthrough
	case api.OpJgt, api.OpJsgt:
		return order > 0
	case api.OpJne:
		return order != 0
	}
	return false
}

// Get is the number of 1 to 8 bytes, the lowest first.
func Get(b []byte, signed bool) int {
	if len(b) < 1 || len(b) > 8 {
		return 0
	}
	var v word
	for i, x := range b {
		v |= word(x) << (8 * i)
	}
	if signed {
		v = v.signed(8 * len(b))
	}
	return int(v)
}

// Put is a number's low bytes, the lowest first.
func Put(size, v int) []byte {
	if size < 1 || size > 8 {
		return nil
	}
	b := make([]byte, size)
	for i := range b {
		b[i] = byte(v >> (8 * i))
	}
	return b
}
