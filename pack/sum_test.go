package pack

import (
	"hash/fnv"
	"math/big"
	"math/rand"
	"testing"
)

// bySum is the chapter's sum in whole numbers of any size.
func bySum(b []byte) uint32 {
	n, turn := big.NewInt(2166136261), big.NewInt(1<<32)
	for _, next := range b {
		n.Xor(n, big.NewInt(int64(next)))
		n.Mul(n, big.NewInt(16777619))
		n.Mod(n, turn)
	}
	return uint32(n.Uint64())
}

func wantSum(t *testing.T, b []byte) {
	t.Helper()
	h := fnv.New32a()
	h.Write(b)
	if got, want := sum(b), bySum(b); got != want || got != h.Sum32() {
		t.Errorf("of %d bytes: %08x; want %08x, %08x", len(b), got, want, h.Sum32())
	}
}

// TestSum ("The sum"): of nothing, of each one byte, of each number of bytes to some thousand, of long ones.
func TestSum(t *testing.T) {
	if s := sum(nil); s != 2166136261 {
		t.Errorf("of nothing: %d", s)
	}
	if s := sum([]byte("a")); s != 0xe40c292c {
		t.Errorf("of 61: %x", s)
	}
	if s := sum([]byte("foobar")); s != 0xbf9cf968 {
		t.Errorf("of six bytes: %x", s)
	}
	for n := range 256 {
		wantSum(t, []byte{byte(n)})
		wantSum(t, []byte{0, byte(n), 255})
	}
	r := rand.New(rand.NewSource(1))
	for n := range 2000 {
		b := make([]byte, n)
		wantSum(t, b)
		r.Read(b)
		wantSum(t, b)
	}
	long := make([]byte, 1<<20)
	wantSum(t, long)
	r.Read(long)
	wantSum(t, long)
}
