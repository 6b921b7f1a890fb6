package span

import "math/bits"

// exact is an arithmetic of whole numbers: false, if what it comes to is below -2^63 or above 2^63 - 1.
type exact func(a, b int) (int, bool)

func plus(a, b int) (int, bool) {
	if b < 0 && a < least-b || b > 0 && a > most-b {
		return 0, false
	}
	return a + b, true
}

func minus(a, b int) (int, bool) {
	if b > 0 && a < least+b || b < 0 && a > most+b {
		return 0, false
	}
	return a - b, true
}

func times(a, b int) (int, bool) {
	over, size := bits.Mul64(magnitude(a), magnitude(b))
	if (a < 0) != (b < 0) {
		return int(-size), over == 0 && size <= 1<<63
	}
	return int(size), over == 0 && size < 1<<63
}

func magnitude(v int) uint64 {
	if v < 0 {
		return -uint64(v)
	}
	return uint64(v)
}

// quotient is cut towards 0; b is not 0.
func quotient(a, b int) (int, bool) {
	if a == least && b == -1 {
		return 0, false
	}
	return a / b, true
}

// left is a times 2^count, right a by 2^count, rounded down; counts are from 0 to 63.
func left(a, count int) (int, bool) {
	v := a << count
	return v, v>>count == a
}

func right(a, count int) (int, bool) { return a >> count, true }

// corners makes an arithmetic one of ends: the least and the greatest of what it comes to at the ends of both operands, if all of that fits.
func corners(by exact) join {
	return func(a, b ends) (ends, bool) {
		r := ends{most, least}
		for _, p := range [...][2]int{{a.lo, b.lo}, {a.lo, b.hi}, {a.hi, b.lo}, {a.hi, b.hi}} {
			v, fits := by(p[0], p[1])
			if !fits {
				return ends{}, false
			}
			r.lo, r.hi = min(r.lo, v), max(r.hi, v)
		}
		return r, true
	}
}
