package help_test

import (
	"bytes"
	"math/big"
	"slices"
	"testing"

	"warrant/api"
	"warrant/help"
)

// These hold the answers to what they are for (P7.7 to P7.10), whatever the chapter's steps say.

// TestSumParts (P7.7): the sum of two parts is that of the second, begun with that of the first, if the first has an even number of bytes.
func TestSumParts(t *testing.T) {
	d := rolling(6)
	for range 6000 {
		a, b, seed := d.piece(2*d.Intn(40)), d.piece(d.Intn(80)), d.number()
		wantSum(t, slices.Concat(a, b), seed, help.Sum(b, help.Sum(a, seed)))
	}
	b := d.piece(api.MaxSpan)
	whole := help.Sum(b, 77)
	for at := 0; at <= len(b); at += 2 * (1 + d.Intn(500)) {
		wantSum(t, b[at:], help.Sum(b[:at], 77), whole)
	}
}

// TestSumOdd (P7.7): behind an odd number of bytes the words stand otherwise, and the sum of the whole is not that of the parts.
func TestSumOdd(t *testing.T) {
	wantSum(t, of(1, 2, 3), 0, 0x0102+0x0300)
	wantSum(t, of(2, 3), help.Sum(of(1), 0), 0x0100+0x0203)
	wantSum(t, of(1, 2), 0, 0x0102)
	wantSum(t, of(2), help.Sum(of(1), 0), 0x0300)
	d := rolling(7)
	for range 3000 {
		a, b, seed := d.piece(1+2*d.Intn(30)), d.piece(d.Intn(60)), d.number()
		// a last byte alone counts as one with a 0 behind it, so the bytes behind the 0 follow an even number
		wantSum(t, b, help.Sum(a, seed), help.Sum(slices.Concat(a, of(0), b), seed))
	}
}

// TestSumTurned (P7.7): the order of whole words doesn't matter.
func TestSumTurned(t *testing.T) {
	wantSum(t, of(3, 4, 1, 2), 9, help.Sum(of(1, 2, 3, 4), 9))
	wantSum(t, of(1, 0), 0, 256)
	wantSum(t, of(0, 1), 0, 1)
	d := rolling(8)
	for range 4000 {
		n, last := d.Intn(40), d.piece(d.Intn(2))
		var a, b []byte
		words := d.piece(2 * n)
		for _, at := range d.Perm(n) {
			b = append(b, words[2*at:2*at+2]...)
		}
		a = append(a, words...)
		seed := d.number()
		wantSum(t, append(b, last...), seed, help.Sum(append(a, last...), seed))
	}
}

// remainder is the sum in one go: of all words and the seed, brought to 1 to 65535; 0, if they are all 0.
func remainder(b []byte, seed int) int {
	total := big.NewInt(int64(uint16(seed)))
	for i, v := range b {
		if i%2 == 0 {
			total.Add(total, big.NewInt(256*int64(v)))
		} else {
			total.Add(total, big.NewInt(int64(v)))
		}
	}
	if total.Sign() == 0 {
		return 0
	}
	total.Sub(total, big.NewInt(1))
	return 1 + int(total.Mod(total, big.NewInt(65535)).Int64())
}

// TestSumZero (P7.7): the sum is 0 just if all bytes and the low 16 bits of the seed are 0.
func TestSumZero(t *testing.T) {
	for _, size := range sizes() {
		b := make([]byte, size)
		for _, seed := range []int{0, 65536, -65536, 1 << 40, least} {
			wantSum(t, b, seed, 0)
		}
		for _, seed := range []int{1, 65535, -1, 65537, most} {
			if help.Sum(b, seed) == 0 {
				t.Errorf("Sum of %d bytes 0 with the seed %d is 0", size, seed)
			}
		}
		for _, at := range []int{0, size / 2, size - 1} {
			if size == 0 {
				break
			}
			b[at] = 1
			if help.Sum(b, 0) == 0 {
				t.Errorf("Sum of %d bytes 0 but for the byte %d is 0", size, at)
			}
			b[at] = 0
		}
	}
}

// TestSumNotZero (P7.7): whatever words come to 65535, or to many times that, don't come to 0.
func TestSumNotZero(t *testing.T) {
	for _, b := range short(6, 0, 1, 254, 255) {
		for _, seed := range []int{0, 1, 65534, 65535, -65536} {
			wantSum(t, b, seed, remainder(b, seed))
			none := len(bytes.Trim(b, "\x00")) == 0 && seed%65536 == 0
			if is := help.Sum(b, seed) == 0; is != none {
				t.Fatalf("Sum(%s, %d) is 0: %v", told(b), seed, is)
			}
		}
	}
	d := rolling(9)
	for range 4000 {
		b, seed := d.piece(d.Intn(200)), d.number()
		wantSum(t, b, seed, remainder(b, seed))
		if len(b)%2 == 0 { // one word more, that brings the sum to 65535
			sum := help.Sum(b, seed)
			word := 65535 - sum
			wantSum(t, append(b, byte(word/256), byte(word%256)), seed, 65535)
		}
	}
}

// ordered: Diff is an order, of these three.
func ordered(t *testing.T, a, b, c []byte) {
	t.Helper()
	ab, ba, bc, ac := help.Diff(a, b), help.Diff(b, a), help.Diff(b, c), help.Diff(a, c)
	if ab != -ba {
		t.Fatalf("Diff(%s, %s) is %d, and turned %d", told(a), told(b), ab, ba)
	}
	if same := bytes.Equal(a, b); same != (ab == 0) {
		t.Fatalf("Diff(%s, %s) is %d", told(a), told(b), ab)
	}
	if ab <= 0 && bc <= 0 && ac > 0 {
		t.Fatalf("%s, %s and %s don't stand in one order", told(a), told(b), told(c))
	}
}

// TestDiffOrder (P7.8): all short pieces of a few bytes, by three.
func TestDiffOrder(t *testing.T) {
	l := short(3, 0, 1, 127, 128, 255)
	for _, a := range l {
		for _, b := range l {
			wantDiff(t, a, b, compared(a, b))
			ordered(t, a, b, a)
		}
	}
	l = short(3, 0, 127, 128)
	for _, a := range l {
		for _, b := range l {
			for _, c := range l {
				ordered(t, a, b, c)
			}
		}
	}
}

// TestDiffOrderDrawn (P7.8): any pieces, short ones above all.
func TestDiffOrderDrawn(t *testing.T) {
	d := rolling(10)
	for range 40000 {
		var l [3][]byte
		for n := range l {
			l[n] = d.piece(d.Intn(1 + d.Intn(9)))
			if n > 0 && d.Intn(2) == 0 { // one that begins as the one ahead of it
				l[n] = append(slices.Clone(l[n-1]), l[n]...)
			}
		}
		ordered(t, l[0], l[1], l[2])
		ordered(t, l[2], l[1], l[0])
		ordered(t, l[1], l[2], l[0])
	}
	for range 60 {
		a, b := d.piece(api.MaxSpan), d.piece(api.MaxSpan)
		ordered(t, a, b, d.piece(api.MaxSpan))
		ordered(t, a, slices.Clone(a), b)
	}
}

// back are a product and exclusive ors turned round: the z of P7.5 ahead of its steps, of its answer.
func back(mix int) uint64 {
	z := uint64(mix)
	z ^= z >> 32
	z *= opposite(0x8f3a6d91e5c7b42d)
	return z ^ z>>29 ^ z>>58
}

// opposite is the number by which an odd one makes 1, modulo 2^64: each turn has twice as many bits right.
func opposite(v uint64) uint64 {
	r := v
	for range 6 {
		r *= 2 - v*r
	}
	return r
}

// TestMixBack (P7.9): of the answer and one number the other one can be told, so unlike ones have unlike Mix.
func TestMixBack(t *testing.T) {
	d := rolling(11)
	l := numbers()
	for range 100000 {
		x, y := int(d.Uint64()), int(d.Uint64())
		if d.Intn(4) == 0 {
			x = l[d.Intn(len(l))]
		}
		if d.Intn(4) == 0 {
			y = l[d.Intn(len(l))]
		}
		z := back(help.Mix(x, y))
		if v := int(z ^ uint64(y)*0xc85b1f2e7a93d64b); v != x {
			t.Fatalf("of Mix(%d, %d) and %d: %d", x, y, y, v)
		}
		if v := int((z ^ uint64(x)) * opposite(0xc85b1f2e7a93d64b)); v != y {
			t.Fatalf("of Mix(%d, %d) and %d: %d", x, y, x, v)
		}
	}
}

// TestMixUnlike (P7.9): for one y unlike x have unlike Mix, and for one x unlike y: those beside one another, those that differ in one bit, and any.
func TestMixUnlike(t *testing.T) {
	d := rolling(12)
	for _, one := range append(numbers(), 5, 6) {
		others := map[int]bool{}
		at := d.number()
		for n := range 200 {
			others[n-100], others[at+n], others[int(d.Uint64())] = true, true, true
		}
		for k := range 64 {
			others[one^1<<k], others[at^1<<k] = true, true
		}
		first, second := map[int]bool{}, map[int]bool{}
		for v := range others {
			first[help.Mix(v, one)], second[help.Mix(one, v)] = true, true
		}
		if len(first) != len(others) || len(second) != len(others) {
			t.Fatalf("of %d numbers, with %d: %d and %d unlike answers", len(others), one, len(first), len(second))
		}
	}
}

// wantWithin: an answer lies in the Ret of its helper.
func wantWithin(t *testing.T, id, v int) {
	t.Helper()
	s, is := help.Sig(id)
	if !is || s.Ret.NoLo || s.Ret.NoHi || v < s.Ret.Lo || v > s.Ret.Hi {
		t.Errorf("helper %d answers %d, and its Ret is %+v", id, v, s.Ret)
	}
}

// TestWithin (P7.10): of pieces of at most MaxSpan bytes the answers lie in their Ret.
func TestWithin(t *testing.T) {
	d := rolling(13)
	for _, size := range sizes() {
		if size > api.MaxSpan {
			continue
		}
		for range 12 {
			a, b := d.piece(size), d.piece(size)
			wantWithin(t, api.HelpSum, help.Sum(a, d.number()))
			wantWithin(t, api.HelpDiff, help.Diff(a, b))
			wantWithin(t, api.HelpDiff, help.Diff(a, slices.Clone(a)))
			wantWithin(t, api.HelpFind, help.Find(a, d.number()))
		}
	}
}

// TestWithinEnds (P7.10): the ends of each Ret are answers.
func TestWithinEnds(t *testing.T) {
	b := slices.Repeat(of(255), api.MaxSpan)
	ends := func(id int, lo, hi int) {
		t.Helper()
		wantWithin(t, id, lo)
		wantWithin(t, id, hi)
		if s, _ := help.Sig(id); s.Ret.Lo != lo || s.Ret.Hi != hi {
			t.Errorf("helper %d has answers from %d to %d, and its Ret is %+v", id, lo, hi, s.Ret)
		}
	}
	ends(api.HelpSum, help.Sum(nil, 0), help.Sum(b[1:], 65535))
	ends(api.HelpDiff, help.Diff(make([]byte, len(b)), b), help.Diff(b, make([]byte, len(b))))
	none := help.Find(b, 7)
	b[len(b)-1] = 7
	ends(api.HelpFind, none, help.Find(b, 7))
}
