package span

import "warrant/api"

// The least and the greatest number.
const (
	least = -1 << 63
	most  = 1<<63 - 1
)

// ends are the least and the greatest number of a span.
type ends struct{ lo, hi int }

func all() ends { return ends{least, most} }

// naturals are the numbers of so many bits without sign, fewer than 64; integers those with a sign.
func naturals(size int) ends { return ends{0, int(uint64(1)<<size - 1)} }

func integers(size int) ends { return ends{-1 << (size - 1), naturals(size - 1).hi} }

// read tells a span's ends; one that is not sound is read as Full.
func read(s api.Span) ends {
	if !end(s.NoLo, s.Lo) || !end(s.NoHi, s.Hi) {
		return all()
	}
	r := all()
	if !s.NoLo {
		r.lo = s.Lo
	}
	if !s.NoHi {
		r.hi = s.Hi
	}
	if r.lo > r.hi {
		return all()
	}
	return r
}

// end tells whether a sound span may have this end.
func end(none bool, v int) bool {
	if none {
		return v == 0
	}
	return -api.Most <= v && v <= api.Most
}

// span is the span from lo to hi, as far as spans reach.
func (r ends) span() api.Span {
	s := api.Span{NoLo: r.lo < -api.Most, NoHi: r.hi > api.Most}
	if !s.NoLo {
		s.Lo = min(r.lo, api.Most)
	}
	if !s.NoHi {
		s.Hi = max(r.hi, -api.Most)
	}
	return s
}

// single tells whether there is one number alone; where a span has no end, there are more.
func (r ends) single() bool { return r.lo == r.hi }

func (r ends) within(room ends) bool { return room.lo <= r.lo && r.hi <= room.hi }

// low holds the low halves.
func (r ends) low() ends {
	half := naturals(32)
	if r.lo>>32 != r.hi>>32 {
		return half
	}
	return ends{r.lo & half.hi, r.hi & half.hi}
}

// bottom holds the low 16, 32 or 64 bits.
func (r ends) bottom(size int) ends {
	switch size {
	case 64:
		return r
	case 32:
		return r.low()
	}
	if room := naturals(size); !r.within(room) {
		return room
	}
	return r
}

// signs is what the ends tell of the signs of all numbers between them.
type signs int

const (
	natural  signs = 1 << iota // none is below 0
	negative                   // all are below 0
	apart                      // none is 0
	positive = natural | apart
	open     = signs(0) // nothing is told
)

// tell tells whether all that is asked is told.
func (s signs) tell(asked signs) bool { return s&asked == asked }

func (r ends) signs() signs {
	s := open
	switch {
	case r.hi < 0:
		s = negative | apart
	case r.lo > 0:
		s = apart
		fallthrough
	case r.lo == 0:
		s |= natural
	}
	return s
}
