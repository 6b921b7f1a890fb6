package flow

import "math/bits"

// whole is what sets are of.
type whole interface {
	~int | ~int8 | ~int16 | ~int32 | ~int64 | ~uint | ~uint8 | ~uint16 | ~uint32 | ~uint64
}

// set holds whole numbers, from 0 to below as many as it was made for.
type set[N whole] struct{ words []uint64 }

// room is an empty set for numbers below n.
func room[N whole](n N) set[N] { return set[N]{words: make([]uint64, (n+63)/64)} }

// bit is the word in which a number stands, and its bit there.
func bit[N whole](n N) (int, uint64) { return int(n / 64), 1 << (n % 64) }

func (s set[N]) has(n N) bool {
	at, b := bit(n)
	return s.words[at]&b != 0
}

// add tells whether the number was not in the set already.
func (s set[N]) add(n N) bool {
	at, b := bit(n)
	was := s.words[at]
	s.words[at] |= b
	return was&b == 0
}

// keep leaves what the other set has too, and one number more; it tells whether anything went.
func (s set[N]) keep(other set[N], more N) bool {
	at, b := bit(more)
	went := false
	for i, was := range s.words {
		with := other.words[i]
		if i == at {
			with |= b
		}
		s.words[i] &= with
		went = went || s.words[i] != was
	}
	return went
}

// list is the set's numbers, rising.
func (s set[N]) list() []N {
	var l []N
	for i, w := range s.words {
		for ; w != 0; w &= w - 1 {
			l = append(l, N(64*i+bits.TrailingZeros64(w)))
		}
	}
	return l
}

// stack holds what waits: the newest comes first.
type stack[T any] struct{ waiting []T }

func (s *stack[T]) push(v T)    { s.waiting = append(s.waiting, v) }
func (s *stack[T]) empty() bool { return len(s.waiting) == 0 }

// top is the newest, to be changed where it stands.
func (s *stack[T]) top() *T { return &s.waiting[len(s.waiting)-1] }

func (s *stack[T]) pop() T {
	v := *s.top()
	s.waiting = s.waiting[:len(s.waiting)-1]
	return v
}
