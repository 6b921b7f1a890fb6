package pack

// mark begins the bytes of a container.
const mark = "WPK1"

// How many bytes numbers have, and what stands ahead of a section's contents.
const (
	kindSize  = 1
	countSize = 3
	headSize  = kindSize + countSize
	lenSize   = 2 // Lo, and Hi
	lensSize  = 2 * lenSize
	tableSize = 2 // Rows, and Wide, a byte each
	sumSize   = 4
)

// The kinds of sections, in the order in which they stand.
const (
	lensKind = iota + 1
	tablesKind
	dataKind
	codeKind
)

// section is a piece of a container: its kind, the byte at which its contents begin, and these.
type section struct {
	kind, at int
	contents []byte
}

// sum is what ends a container, of all bytes ahead of it.
func sum(b []byte) uint32 {
	s := uint32(2166136261)
	for _, next := range b {
		s = (s ^ uint32(next)) * 16777619
	}
	return s
}

// number reads a number of some bytes, the lowest one first.
func number(b []byte) int {
	n := 0
	for k, next := range b {
		n |= int(next) << (8 * k)
	}
	return n
}

// put writes a number of so many bytes behind others.
func put(b []byte, n, bytes int) []byte {
	for range bytes {
		b = append(b, byte(n))
		n >>= 8
	}
	return b
}

// copied is a list in new memory.
func copied[T any](l []T) []T {
	if len(l) == 0 {
		return nil
	}
	c := make([]T, len(l))
	copy(c, l)
	return c
}
