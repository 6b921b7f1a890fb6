package help_test

import (
	"encoding/hex"
	"math/big"
	"math/rand"
	"strconv"
)

// The chapter's words once more, by other means than the package has: what it answers is held against these.

// summed is Sum (P7.2).
func summed(b []byte, seed int) int {
	sum := ((seed % 65536) + 65536) % 65536
	for i := 0; i < len(b); i += 2 {
		sum += int(b[i]) * 256
		if i+1 < len(b) {
			sum += int(b[i+1])
		}
		if sum > 65535 {
			sum -= 65535
		}
	}
	return sum
}

// compared is Diff (P7.3).
func compared(a, b []byte) int {
	for i := 0; i < len(a) && i < len(b); i++ {
		switch x, y := int(a[i]), int(b[i]); {
		case x < y:
			return -1
		case x > y:
			return 1
		}
	}
	switch {
	case len(a) < len(b):
		return -1
	case len(a) > len(b):
		return 1
	}
	return 0
}

// found is Find (P7.4).
func found(b []byte, c int) int {
	low := ((c % 256) + 256) % 256
	for i, v := range b {
		if int(v) == low {
			return i
		}
	}
	return -1
}

// mixed is Mix (P7.5), in whole numbers of any size.
func mixed(x, y int) int {
	one := new(big.Int).SetUint64(0xc85b1f2e7a93d64b)
	two := new(big.Int).SetUint64(0x8f3a6d91e5c7b42d)
	z := rest(new(big.Int).Mul(unsigned(y), one))
	z.Xor(z, unsigned(x))
	z.Xor(z, new(big.Int).Rsh(z, 29))
	z = rest(z.Mul(z, two))
	z.Xor(z, new(big.Int).Rsh(z, 32))
	return int(z.Uint64())
}

// rest is v modulo 2^64, from 0 to 2^64 - 1.
func rest(v *big.Int) *big.Int {
	return v.Mod(v, new(big.Int).Lsh(big.NewInt(1), 64))
}

// unsigned is a number as a whole number from 0 to 2^64 - 1.
func unsigned(v int) *big.Int { return rest(big.NewInt(int64(v))) }

// of is a piece of memory.
func of(b ...byte) []byte { return b }

// told is a piece for a message.
func told(b []byte) string {
	if len(b) > 24 {
		return hex.EncodeToString(b[:24]) + ".. of " + strconv.Itoa(len(b)) + " bytes"
	}
	return "[" + hex.EncodeToString(b) + "]"
}

// numbers are the edges of all sizes, a step to each side, and some in between; the same ones each time.
func numbers() []int {
	l := []int{0, 1, -1, 2, -2, 3, 7, -7, 255, 256, 261, 65535, 65536, 65537, -65535, -65536, least, least + 1, most, most - 1, 0x1122334455667788, -0x1122334455667788}
	for _, k := range []int{7, 8, 15, 16, 28, 29, 30, 31, 32, 33, 34, 35, 36, 47, 61, 62} {
		l = append(l, 1<<k, 1<<k-1, 1<<k+1, -1<<k, -1<<k-1, -1<<k+1)
	}
	d := rolling(1)
	for i := range 60 {
		l = append(l, int(d.Uint64()>>(i%64)))
	}
	return l
}

// dice draw pieces and numbers; the same ones for the same seed.
type dice struct{ *rand.Rand }

func rolling(seed int64) dice { return dice{rand.New(rand.NewSource(seed))} }

// piece has as many bytes as is said, drawn in one of several manners: any bytes, few of them unlike, all of them great, most of them 0.
func (d dice) piece(size int) []byte {
	b := make([]byte, size)
	manner := d.Intn(4)
	for i := range b {
		switch manner {
		case 0:
			b[i] = byte(d.Intn(256))
		case 1:
			b[i] = byte(126 + d.Intn(4))
		case 2:
			b[i] = byte(255 - d.Intn(2))
		default:
			b[i] = byte(d.Intn(256) / 255)
		}
	}
	return b
}

// number is any int, of any size.
func (d dice) number() int {
	v := int(d.Uint64()) >> d.Intn(64)
	if d.Intn(2) == 0 {
		return -v
	}
	return v
}

// short are all pieces of up to so many of the bytes.
func short(size int, among ...byte) [][]byte {
	all := [][]byte{nil}
	for from := 0; size > 0; size-- {
		to := len(all)
		for _, b := range all[from:to] {
			for _, v := range among {
				all = append(all, append(b[:len(b):len(b)], v))
			}
		}
		from = to
	}
	return all
}
