package deed

import "warrant/api"

// mostGroups is how many groups a number may have: nine of seven bits leave a sign free.
const mostGroups = 9

// fault is what a reader gives up with: the byte where it can't go on, and why.
type fault struct {
	at int
	e  api.Errno
}

// caught is the fault that a reader gave up with; the zero one, if it did not. A panic of another kind is none of its own, and goes on.
func caught(up any) fault {
	switch why := up.(type) {
	case nil:
		return fault{}
	case fault:
		return why
	}
	panic(up)
}

func need(is bool, at int, e api.Errno) {
	if !is {
		panic(fault{at, e})
	}
}

// reader reads a deed from the left on, and gives up at the first byte that is wrong.
type reader struct {
	b  []byte
	at int // the byte that is read next
}

func (r *reader) next() int {
	need(r.at < len(r.b), r.at, api.ErrDeed)
	r.at++
	return int(r.b[r.at-1])
}

// groups reads a number as it is written: in no more groups than it needs.
func (r *reader) groups() int {
	from, n := r.at, 0
	for k := range mostGroups {
		b := r.next()
		n |= b & groupMask << (groupBits * k)
		if b < more {
			need(b > 0 || k == 0, from, api.ErrDeed)
			return n
		}
	}
	panic(fault{from, api.ErrDeed})
}

// byte, number and signed read what may stand there: all else is an error at its first byte.
func (r *reader) byte(may func(int) bool, e api.Errno) int {
	n := r.next()
	need(may(n), r.at-1, e)
	return n
}

func (r *reader) number(may func(int) bool, e api.Errno) int {
	from := r.at
	n := r.groups()
	need(may(n), from, e)
	return n
}

func (r *reader) signed(may func(int) bool, e api.Errno) int {
	from := r.at
	n := r.groups()
	if n&1 == 0 {
		n /= 2
	} else {
		n = -(n / 2) - 1
	}
	need(may(n), from, e)
	return n
}

// count reads how many things follow.
func (r *reader) count(most int) int {
	return r.number(func(n int) bool { return n <= most }, api.ErrCount)
}

func (r *reader) deed() api.Deed {
	r.mark()
	var d api.Deed
	for range r.count(api.MaxLoops) {
		d.Loops = append(d.Loops, r.loop())
	}
	for range r.count(api.MaxBlocks) {
		d.Claims = append(d.Claims, r.claim())
	}
	need(r.at == len(r.b), r.at, api.ErrDeed)
	return d
}

func (r *reader) mark() {
	need(len(r.b) >= len(mark), len(r.b), api.ErrDeed)
	need(string(r.b[:len(mark)]) == mark, 0, api.ErrDeed)
	r.at = len(mark)
}

func (r *reader) loop() api.Loop {
	var l api.Loop
	l.Head = r.number(head, api.ErrLoop)
	l.A = r.number(variable, api.ErrLoop)
	l.B = r.number(variable, api.ErrLoop)
	l.K = r.signed(constant, api.ErrLoop)
	l.D = r.number(fall, api.ErrLoop)
	return l
}

func (r *reader) claim() api.Claim {
	var c api.Claim
	c.Dead = r.byte(func(n int) bool { return n == dead || n == alive }, api.ErrDeed) == dead
	if c.Dead {
		return c
	}
	for n := range len(c.Regs) {
		c.Regs[n] = r.tag(false)
	}
	c.Stack = r.stack()
	c.Cons = r.cons()
	return c
}

// tag reads a register's or a slot's tag. A slot's is told only where it is not the zero one, so its mask is not 0.
func (r *reader) tag(slot bool) api.Tag {
	t := api.Tag{Kind: r.byte(kind, api.ErrKind)}
	switch {
	case tabled(t.Kind):
		t.Table = r.byte(table, api.ErrKind)
	case slot && t.Kind == api.KindNone:
		t.Mask = r.byte(written, api.ErrKind)
	}
	return t
}

func (r *reader) stack() [api.Slots]api.Tag {
	var tags [api.Slots]api.Tag
	ahead := -1
	for range r.count(api.Slots) {
		n := r.byte(slot, api.ErrKind)
		need(n > ahead, r.at-1, api.ErrOrder)
		tags[n], ahead = r.tag(true), n
	}
	return tags
}

func (r *reader) cons() []api.Con {
	var l []api.Con
	for range r.count(mostCons) {
		l = append(l, r.con(l))
	}
	return l
}

func (r *reader) con(ahead []api.Con) api.Con {
	from := r.at
	var c api.Con
	c.I = r.byte(variable, api.ErrCons)
	c.J = r.byte(func(n int) bool { return variable(n) && n != c.I }, api.ErrCons)
	need(rises(ahead, c), from, api.ErrOrder)
	c.C = r.signed(constant, api.ErrCons)
	return c
}
