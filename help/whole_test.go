package help_test

import (
	"slices"
	"testing"

	"warrant/api"
)

// sizes are numbers of bytes, those about a machine's words and about MaxSpan among them.
func sizes() []int {
	var l []int
	for n := range 80 {
		l = append(l, n)
	}
	for _, at := range []int{128, 256, 1024, 4096, 32768, api.MaxSpan, 2 * api.MaxSpan, 1 << 20} {
		l = append(l, at-1, at, at+1)
	}
	return l
}

// TestSumDrawn (P7.2): every size, with seeds of all sorts.
func TestSumDrawn(t *testing.T) {
	d := rolling(2)
	for _, size := range sizes() {
		for range 8 {
			b := d.piece(size)
			for _, seed := range []int{0, 65535, d.number(), d.Intn(65536)} {
				wantSum(t, b, seed, summed(b, seed))
			}
		}
	}
	b := d.piece(7)
	for _, seed := range numbers() {
		wantSum(t, b, seed, summed(b, seed))
	}
}

// TestSumWords (P7.2): each word, to sums from which it just reaches 65535, just passes it, or does neither.
func TestSumWords(t *testing.T) {
	for word := range 65536 {
		b := of(byte(word/256), byte(word%256))
		for _, seed := range []int{0, 65534 - word, 65535 - word, 65536 - word, 65535} {
			wantSum(t, b, seed, summed(b, seed))
		}
	}
}

// TestDiffDrawn (P7.3): pieces that are the same up to a place, at every size and at many places.
func TestDiffDrawn(t *testing.T) {
	d := rolling(3)
	for _, size := range sizes() {
		for range 6 {
			a := d.piece(size)
			b := slices.Clone(a)
			wantDiff(t, a, b, 0)
			for _, at := range []int{0, size / 2, size - 1, d.Intn(size + 1)} {
				if at < 0 || at >= size {
					continue
				}
				b[at] = byte(d.Intn(256))
				wantDiff(t, a, b, compared(a, b))
				wantDiff(t, b, a, compared(b, a))
				wantDiff(t, a[:at], b, compared(a[:at], b))
				wantDiff(t, a, b[:at], compared(a, b[:at]))
				copy(b, a)
			}
		}
	}
}

// TestDiffBytes (P7.3): every two bytes, at the end and with others behind.
func TestDiffBytes(t *testing.T) {
	for x := range 256 {
		for y := range 256 {
			a, b := of(3, byte(x)), of(3, byte(y))
			wantDiff(t, a, b, compared(a, b))
			a, b = append(a, 0), append(b, 9, 9)
			wantDiff(t, a, b, compared(a, b))
		}
	}
}

// TestFindDrawn (P7.4): at every size each byte, under all sorts of numbers.
func TestFindDrawn(t *testing.T) {
	d := rolling(4)
	for _, size := range sizes() {
		for range 4 {
			b := d.piece(size)
			for range 20 {
				c := d.number()
				wantFind(t, b, c, found(b, c))
				c = d.Intn(256)
				wantFind(t, b, c, found(b, c))
			}
		}
	}
	b := of(255, 254, 128, 127, 1, 0)
	for _, c := range numbers() {
		wantFind(t, b, c, found(b, c))
	}
}

// TestFindFar (P7.4): the first place, however far it is.
func TestFindFar(t *testing.T) {
	for _, size := range sizes() {
		if size == 0 {
			continue
		}
		b := make([]byte, size)
		wantFind(t, b, 9, -1)
		b[size-1] = 9
		wantFind(t, b, 9, size-1)
		wantFind(t, b[:size-1], 9, -1)
	}
}

// TestFindPlaces (P7.4): each place of a piece, with the byte once more behind it and without.
func TestFindPlaces(t *testing.T) {
	for _, size := range []int{1, 2, 7, 64, 300} {
		for c := range 256 {
			b := slices.Repeat(of(byte(c+1)), size)
			wantFind(t, b, c, -1)
			for at := range b {
				b[at] = byte(c)
				wantFind(t, b, c, at)
				b[size-1] = byte(c)
				wantFind(t, b, c, at)
				b[at], b[size-1] = byte(c+1), byte(c+1)
			}
		}
	}
}

// TestMixDrawn (P7.5): every two of the edges, and any numbers.
func TestMixDrawn(t *testing.T) {
	l := numbers()
	for _, x := range l {
		for _, y := range l {
			wantMix(t, x, y, mixed(x, y))
		}
	}
	d := rolling(5)
	for range 50000 {
		x, y := d.number(), int(d.Uint64())
		wantMix(t, x, y, mixed(x, y))
		wantMix(t, y, x, mixed(y, x))
	}
}

// TestMixBits (P7.5): numbers with one bit, or with all but one.
func TestMixBits(t *testing.T) {
	for i := range 64 {
		for j := range 64 {
			x, y := 1<<i, 1<<j
			wantMix(t, x, y, mixed(x, y))
			wantMix(t, ^x, y, mixed(^x, y))
			wantMix(t, x, ^y, mixed(x, ^y))
			wantMix(t, ^x, ^y, mixed(^x, ^y))
		}
	}
}
