package asm

import (
	"strconv"
	"strings"

	"warrant/api"
)

// reader reads a line's tokens from the left on. A form that does not fit goes on to its end all the same, and reads nothing any more.
type reader struct {
	left   []string
	failed bool // the form that is tried does not fit
	beyond bool // a number is none of 64 bits
	labels []string
	ins    []api.Ins // one, or none
	goal   string    // the label that it jumps to; "", if there is none
}

// line reads a whole line: labels, and an instruction or nothing. It tells whether that is its form.
func (r *reader) line() bool {
	for len(r.left) > 1 && word(r.left[0]) && r.left[1] == ":" {
		r.labels = append(r.labels, r.left[0])
		r.left = r.left[2:]
	}
	if len(r.left) == 0 {
		return true
	}
	begun := *r
	for _, form := range r.forms() {
		*r = begun
		i := form()
		if !r.failed && len(r.left) == 0 {
			r.ins = []api.Ins{i}
			return true
		}
	}
	return false
}

// peek is the next token; "", if none is left, or the form has failed.
func (r *reader) peek() string {
	if r.failed || len(r.left) == 0 {
		return ""
	}
	return r.left[0]
}

// next reads whatever token comes next.
func (r *reader) next() string {
	t := r.peek()
	if t == "" {
		r.failed = true
	} else {
		r.left = r.left[1:]
	}
	return t
}

// is tells whether the next token is that one; if so, it is read.
func (r *reader) is(token string) bool {
	if r.peek() != token {
		return false
	}
	r.next()
	return true
}

// need reads tokens that must come next.
func (r *reader) need(tokens ...string) {
	for _, t := range tokens {
		if !r.is(t) {
			r.failed = true
		}
	}
}

// narrow tells whether the next token is a narrow register, if it is a register.
func (r *reader) narrow() bool { return strings.HasPrefix(r.peek(), "w") }

// isNumbered tells whether the next token is a name with one of some numbers behind it, and which; if so, it is read.
func (r *reader) isNumbered(name string, numbers ...int) (int, bool) {
	tail, is := strings.CutPrefix(r.peek(), name)
	if !is {
		return 0, false
	}
	for _, n := range numbers {
		if tail == strconv.Itoa(n) {
			r.next()
			return n, true
		}
	}
	return 0, false
}

// numbered reads a name with one of some numbers behind it, that must come next.
func (r *reader) numbered(name string, numbers ...int) int {
	n, is := r.isNumbered(name, numbers...)
	if !is {
		r.failed = true
	}
	return n
}

func (r *reader) register(narrow bool) int {
	return r.numbered(bank(narrow), 0, 1, 2, 3, 4, 5, 6, 7, 8, 9, 10)
}

// same reads a register that was read already.
func (r *reader) same(narrow bool, n int) { r.need(register(narrow, n)) }

// second reads the second operand of an instruction.
func (r *reader) second(i api.Ins) api.Ins {
	if i.Reg = word(r.peek()); i.Reg {
		i.Src = r.register(i.Narrow)
	} else {
		i.Imm = r.number()
	}
	return i
}

// number reads a number, with or without a minus.
func (r *reader) number() int {
	if r.is("-") {
		return r.value("-")
	}
	return r.value("")
}

// added reads what stands behind a plus or a minus, with its sign; false, if neither comes next.
func (r *reader) added() (int, bool) {
	switch {
	case r.is("+"):
		return r.value(""), true
	case r.is("-"):
		return r.value("-"), true
	}
	return 0, false
}

func (r *reader) value(sign string) int {
	t := r.next()
	if !number(t) {
		r.failed = true
		return 0
	}
	base := 10
	if digits, is := strings.CutPrefix(t, "0x"); is {
		t, base = digits, 16
	}
	v, err := strconv.ParseInt(sign+t, base, 64)
	if err != nil {
		r.beyond = true
		return 0
	}
	return int(v)
}

// place reads a register in brackets, and what is added to it.
func (r *reader) place() (reg, off int) {
	r.need("[")
	reg = r.register(false)
	off, _ = r.added()
	r.need("]")
	return reg, off
}

// target reads where a jump goes: a distance, or a label, whose distance is not known yet.
func (r *reader) target() int {
	if d, is := r.added(); is {
		return d
	}
	if r.goal = r.next(); !word(r.goal) {
		r.failed = true
	}
	return 0
}

// operation reads the sign of one of the operations from first to last.
func (r *reader) operation(first, last int) int {
	sign := ""
	if r.is("s") {
		sign = "s"
	}
	sign += r.next()
	for op := first; op <= last; op++ {
		if signs[op] == sign {
			return op
		}
	}
	r.failed = true
	return 0
}

// atom reads the sign of what an atomic operation does.
func (r *reader) atom() int {
	for _, a := range atoms {
		if r.is(a.sign) {
			return a.imm
		}
	}
	r.failed = true
	return 0
}
