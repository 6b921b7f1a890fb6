package word_test

import (
	"math/big"
	"math/rand"

	"warrant/api"
)

// The chapter's definitions once more, in whole numbers of any size: what the package does with bits is held against these.

const least, most = -1 << 63, 1<<63 - 1

var (
	operations = []int{api.OpAdd, api.OpSub, api.OpMul, api.OpDiv, api.OpMod, api.OpSdiv, api.OpSmod, api.OpOr, api.OpAnd, api.OpXor, api.OpLsh, api.OpRsh, api.OpArsh, api.OpNeg, api.OpMov}
	conditions = []int{api.OpJeq, api.OpJne, api.OpJgt, api.OpJge, api.OpJlt, api.OpJle, api.OpJsgt, api.OpJsge, api.OpJslt, api.OpJsle, api.OpJset}
	both       = []bool{false, true}
)

// numbers are the edges of all sizes, a step to each side, and some in between; the same ones each time.
func numbers() []int {
	l := []int{0, 1, -1, 2, -2, 3, 7, -7, 10, 63, 64, 65, 31, 32, 33, 128, least, least + 1, most, most - 1, 0x1122334455667788, -0x1122334455667788}
	for _, k := range []int{7, 8, 15, 16, 31, 32, 33, 47, 62} {
		l = append(l, 1<<k, 1<<k-1, 1<<k+1, -1<<k, -1<<k-1, -1<<k+1)
	}
	r := rand.New(rand.NewSource(1))
	for i := range 40 {
		l = append(l, int(r.Uint64()>>(i%64)))
	}
	return l
}

// divides tells whether an operation is one of the four that know no divisor 0.
func divides(op int) bool {
	return op == api.OpDiv || op == api.OpMod || op == api.OpSdiv || op == api.OpSmod
}

// width is how many bits an operation, or a condition, looks at.
func width(narrow bool) uint {
	if narrow {
		return 32
	}
	return 64
}

func power(k uint) *big.Int { return new(big.Int).Lsh(big.NewInt(1), k) }

// rest is x modulo 2^k, from 0 to 2^k - 1.
func rest(x *big.Int, k uint) *big.Int { return new(big.Int).Mod(x, power(k)) }

// unsigned are the low k bits of a.
func unsigned(a int, k uint) *big.Int { return rest(big.NewInt(int64(a)), k) }

// signed are the low k bits of a with their sign.
func signed(a int, k uint) *big.Int {
	x := unsigned(a, k)
	if x.Cmp(power(k-1)) >= 0 {
		x.Sub(x, power(k))
	}
	return x
}

// told is x modulo 2^64 as int.
func told(x *big.Int) int { return int(rest(x, 64).Uint64()) }

// low are the low k bits of a, told as int.
func low(a int, k uint) int { return told(unsigned(a, k)) }

// joined is Alu, where nothing is refused.
func joined(op int, narrow bool, a, b int) int {
	k := width(narrow)
	x, y := unsigned(a, k), unsigned(b, k)
	distance := uint(rest(y, 64).Uint64()) % k
	z := new(big.Int)
	switch op {
	case api.OpAdd:
		z.Add(x, y)
	case api.OpSub:
		z.Sub(x, y)
	case api.OpMul:
		z.Mul(x, y)
	case api.OpDiv:
		z.Quo(x, y)
	case api.OpMod:
		z.Rem(x, y)
	case api.OpSdiv:
		z.Quo(signed(a, k), signed(b, k))
	case api.OpSmod:
		z.Rem(signed(a, k), signed(b, k))
	case api.OpOr:
		z.Or(x, y)
	case api.OpAnd:
		z.And(x, y)
	case api.OpXor:
		z.Xor(x, y)
	case api.OpLsh:
		z.Mul(x, power(distance))
	case api.OpRsh:
		z.Quo(x, power(distance))
	case api.OpArsh:
		z.Div(signed(a, k), power(distance))
	case api.OpNeg:
		z.Neg(x)
	case api.OpMov:
		z.Set(y)
	}
	return told(rest(z, k))
}

// held is Holds, of the eleven conditions.
func held(op int, narrow bool, a, b int) bool {
	k := width(narrow)
	order := unsigned(a, k).Cmp(unsigned(b, k))
	with := signed(a, k).Cmp(signed(b, k))
	switch op {
	case api.OpJeq:
		return order == 0
	case api.OpJne:
		return order != 0
	case api.OpJgt:
		return order > 0
	case api.OpJge:
		return order >= 0
	case api.OpJlt:
		return order < 0
	case api.OpJle:
		return order <= 0
	case api.OpJsgt:
		return with > 0
	case api.OpJsge:
		return with >= 0
	case api.OpJslt:
		return with < 0
	case api.OpJsle:
		return with <= 0
	}
	return new(big.Int).And(unsigned(a, k), unsigned(b, k)).Sign() != 0
}

// byteOf is the byte i of a number, counted from the lowest.
func byteOf(a, i int) byte {
	return byte(unsigned(a, 64).Rsh(unsigned(a, 64), uint(8*i)).Uint64() % 256)
}
