package deed

import "warrant/api"

// mark is what each warrant's bytes begin with.
const mark = "WAR1"

// A number is written in groups of bits, the lowest first; another one follows where more is set.
const (
	groupBits = 7
	more      = 1 << groupBits
	groupMask = more - 1
)

// A claim's first byte.
const (
	dead = iota
	alive
)

// writer writes a plain deed: of what it is handed nothing is wrong.
type writer struct{ b []byte }

func (w *writer) byte(n int) { w.b = append(w.b, byte(n)) }

func (w *writer) number(n int) {
	for n >= more {
		w.byte(n&groupMask | more)
		n >>= groupBits
	}
	w.byte(n)
}

func (w *writer) signed(n int) {
	if n < 0 {
		w.number(-2*n - 1)
	} else {
		w.number(2 * n)
	}
}

func (w *writer) deed(d api.Deed) {
	w.b = append(w.b, mark...)
	w.number(len(d.Loops))
	for _, l := range d.Loops {
		w.loop(l)
	}
	w.number(len(d.Claims))
	for _, c := range d.Claims {
		w.claim(c)
	}
}

func (w *writer) loop(l api.Loop) {
	w.number(l.Head)
	w.number(l.A)
	w.number(l.B)
	w.signed(l.K)
	w.number(l.D)
}

func (w *writer) claim(c api.Claim) {
	if c.Dead {
		w.byte(dead)
		return
	}
	w.byte(alive)
	for n := range len(c.Regs) {
		w.tag(c.Regs[n], false)
	}
	w.stack(c.Stack)
	w.number(len(c.Cons))
	for _, con := range c.Cons {
		w.byte(con.I)
		w.byte(con.J)
		w.signed(con.C)
	}
}

// stack writes the slots' tags, but for the zero ones.
func (w *writer) stack(tags [api.Slots]api.Tag) {
	told := 0
	for n := range api.Slots {
		if tags[n] != (api.Tag{}) {
			told++
		}
	}
	w.number(told)
	for n := range api.Slots {
		if tags[n] != (api.Tag{}) {
			w.byte(n)
			w.tag(tags[n], true)
		}
	}
}

func (w *writer) tag(t api.Tag, slot bool) {
	w.byte(t.Kind)
	switch {
	case tabled(t.Kind):
		w.byte(t.Table)
	case slot && t.Kind == api.KindNone:
		w.byte(t.Mask)
	}
}
