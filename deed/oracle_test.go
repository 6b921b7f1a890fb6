package deed_test

import (
	"encoding/binary"
	"math/big"
	"slices"

	"warrant/api"
	"warrant/shape"
)

// The chapter's words once more, by other means: what the package answers is held against these.

// reckonWrong: P11.1, as all faults of a deed in their order, of which the first one is told.
func reckonWrong(d api.Deed) api.Errno {
	l := []api.Errno{api.OK}
	fault := func(is bool, e api.Errno) {
		if is {
			l = append(l, e)
		}
	}
	out := func(n, least, most int) bool { return n < least || n > most }
	fault(len(d.Loops) > 8 || len(d.Claims) > 512, api.ErrCount)
	for _, l := range d.Loops {
		fault(out(l.Head, 0, 511) || out(l.A, 0, 59) || out(l.B, 0, 59) || out(l.K, -most, most) || out(l.D, 0, most), api.ErrLoop)
	}
	for _, c := range d.Claims {
		full := len(c.Cons) > 0
		tagged := append(c.Regs[:], c.Stack[:]...)
		for _, t := range tagged {
			full = full || t.Kind != 0 || t.Table != 0 || t.Mask != 0
		}
		fault(c.Dead && full, api.ErrDead)
		for n, t := range tagged {
			fault(!goodTag(t, n >= 10), api.ErrKind)
		}
		for n, k := range c.Cons {
			fault(out(k.I, 0, 59) || out(k.J, 0, 59) || k.I == k.J || out(k.C, -most, most), api.ErrCons)
			fault(n > 0 && slices.Compare([]int{k.I, k.J}, []int{c.Cons[n-1].I, c.Cons[n-1].J}) <= 0, api.ErrOrder)
		}
	}
	return l[min(1, len(l)-1)]
}

// reckonNumber: P11.2, a number's digits to the base of 128, the lowest first. (A number below 0, as no plain deed has it, is taken without its sign.)
func reckonNumber(n *big.Int) []byte {
	var b []byte
	base, digit := big.NewInt(128), new(big.Int)
	for left := new(big.Int).Abs(n); ; {
		left.DivMod(left, base, digit)
		if left.Sign() == 0 {
			return append(b, byte(digit.Int64()))
		}
		b = append(b, byte(digit.Int64())+128)
	}
}

func reckonSigned(n int) []byte {
	twice := new(big.Int).Mul(big.NewInt(int64(n)), big.NewInt(2))
	if n < 0 {
		twice.Sub(big.NewInt(-1), twice)
	}
	return reckonNumber(twice)
}

// reckonBytes: P11.3, of a plain deed.
func reckonBytes(d api.Deed) []byte {
	b := []byte{0x57, 0x41, 0x52, 0x31}
	numbers := func(l ...int) {
		for _, n := range l {
			b = append(b, reckonNumber(big.NewInt(int64(n)))...)
		}
	}
	numbers(len(d.Loops))
	for _, l := range d.Loops {
		numbers(l.Head, l.A, l.B)
		b = append(b, reckonSigned(l.K)...)
		numbers(l.D)
	}
	numbers(len(d.Claims))
	for _, c := range d.Claims {
		if c.Dead {
			b = append(b, 0)
			continue
		}
		b = append(b, 1)
		for _, t := range c.Regs {
			b = append(b, byte(t.Kind))
			if t.Kind == 5 || t.Kind == 6 {
				b = append(b, byte(t.Table))
			}
		}
		n, body := 0, []byte{}
		for k, t := range c.Stack {
			if t == (api.Tag{}) {
				continue
			}
			n++
			body = append(body, byte(k), byte(t.Kind))
			switch t.Kind {
			case 0:
				body = append(body, byte(t.Mask))
			case 5, 6:
				body = append(body, byte(t.Table))
			}
		}
		numbers(n)
		b = append(b, body...)
		numbers(len(c.Cons))
		for _, k := range c.Cons {
			b = append(append(b, byte(k.I), byte(k.J)), reckonSigned(k.C)...)
		}
	}
	return b
}

// reckonEncode: P11.4.
func reckonEncode(d api.Deed) ([]byte, api.Errno) {
	if e := reckonWrong(d); e != api.OK {
		return nil, e
	}
	if b := reckonBytes(d); len(b) <= api.MaxDeed {
		return b, api.OK
	}
	return nil, api.ErrLong
}

// item is what is to stand next in a warrant's bytes: a byte or a number; then tells a fault and its place, or what is to stand behind it, ahead of the rest.
type item struct {
	number bool
	then   func(n, at int) (place int, e api.Errno, more []item)
}

// reckoner reads items one after the other; what is read of a deed so far is in d.
type reckoner struct {
	d     api.Deed
	queue []item
}

// reckonDecode: P11.5.
func reckonDecode(b []byte) (api.Deed, int, api.Errno) {
	switch {
	case len(b) > 1<<22:
		return api.Deed{}, 0, api.ErrLong
	case len(b) < 4:
		return api.Deed{}, len(b), api.ErrDeed
	case string(b[:4]) != "WAR1":
		return api.Deed{}, 0, api.ErrDeed
	}
	var r reckoner
	r.queue = []item{r.counted(8, api.ErrCount, r.loop), r.counted(512, api.ErrCount, r.claim)}
	at := 4
	for len(r.queue) > 0 {
		next := r.queue[0]
		n, wide, e := stands(b, at, next.number)
		if e != api.OK {
			return api.Deed{}, wide, e
		}
		place, e, more := next.then(n, at)
		if e != api.OK {
			return api.Deed{}, place, e
		}
		r.queue = append(more, r.queue[1:]...)
		at += wide
	}
	if at < len(b) {
		return api.Deed{}, at, api.ErrDeed
	}
	return r.d, 0, api.OK
}

// stands is the byte or number that stands at a place, and how wide it is; or an error, and where it is told.
func stands(b []byte, at int, number bool) (n, wide int, e api.Errno) {
	if !number {
		if at == len(b) {
			return 0, at, api.ErrDeed
		}
		return int(b[at]), 1, api.OK
	}
	open := 0
	for open < 9 && at+open < len(b) && b[at+open] >= 128 {
		open++
	}
	v, wide := binary.Uvarint(b[at:])
	switch {
	case open == 9:
		return 0, at, api.ErrDeed
	case wide == 0:
		return 0, len(b), api.ErrDeed
	case wide > 1 && b[at+wide-1] == 0:
		return 0, at, api.ErrDeed
	}
	return int(v), wide, api.OK
}

// one is an item that has to be from least to most, and is kept.
func one(number bool, least, most int, e api.Errno, keep func(n int), more ...item) item {
	return item{number, func(n, at int) (int, api.Errno, []item) {
		if n < least || n > most {
			return at, e, nil
		}
		keep(n)
		return 0, api.OK, more
	}}
}

func (r *reckoner) counted(most int, e api.Errno, each func() []item) item {
	return item{true, func(n, at int) (int, api.Errno, []item) {
		if n > most {
			return at, e, nil
		}
		var more []item
		for range n {
			more = append(more, each()...)
		}
		return 0, api.OK, more
	}}
}

// back is the number with a sign that was written as n.
func back(n int) int {
	if n%2 == 1 {
		return -(n/2 + 1)
	}
	return n / 2
}

func (r *reckoner) loop() []item {
	r.d.Loops = append(r.d.Loops, api.Loop{})
	k := len(r.d.Loops) - 1
	set := func(in func(l *api.Loop) *int) func(n int) { return func(n int) { *in(&r.d.Loops[k]) = n } }
	return []item{
		one(true, 0, 511, api.ErrLoop, set(func(l *api.Loop) *int { return &l.Head })),
		one(true, 0, 59, api.ErrLoop, set(func(l *api.Loop) *int { return &l.A })),
		one(true, 0, 59, api.ErrLoop, set(func(l *api.Loop) *int { return &l.B })),
		one(true, 0, 2*most, api.ErrLoop, func(n int) { r.d.Loops[k].K = back(n) }), // -most is 2 * most - 1
		one(true, 0, most, api.ErrLoop, set(func(l *api.Loop) *int { return &l.D })),
	}
}

func (r *reckoner) claim() []item {
	r.d.Claims = append(r.d.Claims, api.Claim{})
	k := len(r.d.Claims) - 1
	c := func() *api.Claim { return &r.d.Claims[k] }
	return []item{{false, func(n, at int) (int, api.Errno, []item) {
		if n > 1 {
			return at, api.ErrDeed, nil
		}
		c().Dead = n == 0
		if n == 0 {
			return 0, api.OK, nil
		}
		var l []item
		for v := range 10 {
			l = append(l, tagItem(func() *api.Tag { return &c().Regs[v] }, false))
		}
		return 0, api.OK, append(l, r.slots(c), r.cons(c))
	}}}
}

func tagItem(tag func() *api.Tag, slot bool) item {
	return item{false, func(n, at int) (int, api.Errno, []item) {
		if n > 6 {
			return at, api.ErrKind, nil
		}
		tag().Kind = n
		switch {
		case n > 4:
			return 0, api.OK, []item{one(false, 0, 7, api.ErrKind, func(n int) { tag().Table = n })}
		case n == 0 && slot:
			return 0, api.OK, []item{one(false, 1, 255, api.ErrKind, func(n int) { tag().Mask = n })}
		}
		return 0, api.OK, nil
	}}
}

func (r *reckoner) slots(c func() *api.Claim) item {
	ahead := -1
	each := func() []item {
		return []item{{false, func(n, at int) (int, api.Errno, []item) {
			if n > 31 {
				return at, api.ErrKind, nil
			}
			if n <= ahead {
				return at, api.ErrOrder, nil
			}
			ahead = n
			return 0, api.OK, []item{tagItem(func() *api.Tag { return &c().Stack[n] }, true)}
		}}}
	}
	return r.counted(32, api.ErrCount, each)
}

func (r *reckoner) cons(c func() *api.Claim) item {
	each := func() []item {
		var k api.Con
		first := one(false, 0, 59, api.ErrCons, func(n int) { k.I = n })
		second := item{false, func(n, at int) (int, api.Errno, []item) {
			if n > 59 || n == k.I {
				return at, api.ErrCons, nil
			}
			k.J = n
			if l := c().Cons; len(l) > 0 && 60*k.I+k.J <= 60*l[len(l)-1].I+l[len(l)-1].J {
				return at - 1, api.ErrOrder, nil
			}
			return 0, api.OK, nil
		}}
		third := one(true, 0, 2*most, api.ErrCons, func(n int) {
			k.C = back(n)
			c().Cons = append(c().Cons, k)
		})
		return []item{first, second, third}
	}
	return r.counted(3540, api.ErrCount, each)
}

// reckonCheck: P11.6, as all faults in their order, of which the first one is told.
func (p thing) reckonCheck(d api.Deed) (int, api.Errno) {
	around := p.f.Loops()
	if len(d.Loops) != len(around) || len(d.Claims) != len(p.f.Blocks()) {
		return 0, api.ErrCount
	}
	for n, l := range d.Loops {
		own := l.A >= 0 && l.A <= 43 && l.B >= 0 && l.B <= 43 && l.A != l.B
		if !own || l.Head != around[n].Head || l.K < -most || l.K > most || l.D < 1 || l.D > most {
			return n, api.ErrLoop
		}
	}
	for n, c := range d.Claims {
		if e := p.reckonClaim(c, n); e != api.OK {
			return n, e
		}
	}
	return 0, api.OK
}

func (p thing) reckonClaim(c api.Claim, block int) api.Errno {
	for _, t := range append(c.Regs[:], c.Stack[:]...) {
		if (t.Kind == 5 || t.Kind == 6) && (t.Table < 0 || t.Table >= len(p.p.Tables)) {
			return api.ErrKind
		}
	}
	if slices.ContainsFunc(c.Cons, func(k api.Con) bool { return k.C < -most || k.C > most }) {
		return api.ErrCons
	}
	if _, e := shape.From(c); e != api.OK {
		return e
	}
	may := map[int]bool{}
	for h, l := range p.f.Loops() {
		may[44+2*h] = slices.Contains(l.Blocks, block) && l.Head != block
		may[45+2*h] = may[44+2*h]
	}
	for _, k := range c.Cons {
		if k.I > 43 && !may[k.I] || k.J > 43 && !may[k.J] {
			return api.ErrGhost
		}
	}
	return api.OK
}
