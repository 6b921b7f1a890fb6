package rank

import (
	"math/rand"
	"testing"

	"warrant/api"
)

// TestComings (P14.2): a greatest number below 0, which no shape has of which the head's fault is not told, 0, and around multiples; Many.
func TestComings(t *testing.T) {
	for _, c := range []struct{ greatest, less, want int }{
		{-1, 1, 0}, {-1, 7, 0}, {-7, 7, 0}, {-8, 7, 0}, {-api.Most, 1, 0},
		{0, 1, 1}, {0, 7, 1}, {6, 7, 1}, {7, 7, 2}, {8, 7, 2}, {13, 7, 2}, {14, 7, 3},
		{api.MaxSteps - 2, 1, api.MaxSteps - 1}, {api.MaxSteps - 1, 1, api.MaxSteps}, {api.MaxSteps, 1, many}, {api.MaxSteps + 1, 1, many},
		{2*api.MaxSteps - 1, 2, api.MaxSteps}, {2 * api.MaxSteps, 2, many}, {2*api.MaxSteps + 2, 2, many},
		{api.Most + api.MaxConst, 1, many}, {api.Most, api.MaxConst, 1<<20 + 1},
	} {
		if got := comings(c.greatest, c.less); got != c.want {
			t.Errorf("%d by %d: %d, want %d", c.greatest, c.less, got, c.want)
		}
	}
}

// TestProduct (P14.2, P14.3): products at MaxSteps and beyond, with a factor that is 0, and such as leave 64 bits.
func TestProduct(t *testing.T) {
	for _, c := range []struct{ a, b, want int }{
		{0, 0, 0}, {0, many, 0}, {many, 0, 0}, {1, many, many}, {many, 1, many}, {7, 6, 42},
		{1 << 16, 1 << 16, api.MaxSteps}, {1 << 31, 2, api.MaxSteps}, {1<<31 + 1, 2, many}, {api.MaxSteps, 1, api.MaxSteps},
		{641, 6700417, many}, {641, 6700416, many - 641}, {641, 6700418, many}, {6700417, 642, many},
		{api.MaxSteps, api.MaxSteps, many}, {many, many, many}, {many, 4096, many}, {1 << 20, 4096, api.MaxSteps},
	} {
		if got := product(c.a, c.b); got != c.want {
			t.Errorf("%d by %d: %d, want %d", c.a, c.b, got, c.want)
		}
	}
	r := rand.New(rand.NewSource(1))
	for range 100000 {
		a, b := r.Intn(1<<r.Intn(33)+1), r.Intn(1<<r.Intn(29)+1)
		if got := product(a, b); got != min(a*b, many) {
			t.Fatalf("%d by %d: %d", a, b, got)
		}
	}
}
