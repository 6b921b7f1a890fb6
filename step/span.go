package step

import (
	"math"

	"warrant/api"
)

// span is the range of a term; an end that what is added drives beyond Most is none, but for an upper one below -Most.
func (w *way) span(t term) api.Span {
	s := w.ahead.Span(t.v)
	if !s.NoLo {
		s.Lo += t.k
		if s.Lo < -api.Most || s.Lo > api.Most {
			s.Lo, s.NoLo = 0, true
		}
	}
	if !s.NoHi {
		s.Hi = max(s.Hi+t.k, -api.Most)
		if s.Hi > api.Most {
			s.Hi, s.NoHi = 0, true
		}
	}
	return s
}

// low and high are a span's ends; where there is none, that of all numbers.
func low(s api.Span) int {
	if s.NoLo {
		return math.MinInt
	}
	return s.Lo
}

func high(s api.Span) int {
	if s.NoHi {
		return math.MaxInt
	}
	return s.Hi
}

// room is a range of numbers that is not that of all.
type room struct{ from, to int }

func (r room) has(n int) bool { return r.from <= n && n <= r.to }

// holds tells whether both ends of a span are there, and in the room: also of a span whose ends lie crosswise, as they may in a zone that is not closed.
func (r room) holds(s api.Span) bool { return r.has(low(s)) && r.has(high(s)) }

// naturals are the numbers of so many bits without sign; integers those with a sign.
func naturals(size int) room { return room{0, 1<<size - 1} }

func integers(size int) room { return room{-1 << (size - 1), 1<<(size-1) - 1} }

// offsets are those that a pointer may have.
func offsets() room { return room{-api.MaxOff, api.MaxOff} }

// single tells whether a span is of one number alone.
func single(s api.Span) bool { return !s.NoLo && !s.NoHi && s.Lo == s.Hi }
