package deed_test

import (
	"fmt"
	"strings"

	"warrant/api"
)

// cut is bytes for a message: the beginning of them.
func cut(b []byte) string {
	if len(b) > 200 {
		return fmt.Sprintf("% x .. of %d", b[:200], len(b))
	}
	return fmt.Sprintf("% x", b)
}

// told is a deed for a message: the beginning of its lists.
func told(d api.Deed) string {
	var b strings.Builder
	fmt.Fprintf(&b, "%d loops", len(d.Loops))
	for n, l := range d.Loops {
		if n == 10 {
			break
		}
		fmt.Fprintf(&b, " %v", l)
	}
	fmt.Fprintf(&b, ", %d claims", len(d.Claims))
	for n, c := range d.Claims {
		if n == 10 {
			break
		}
		b.WriteString(listed(c))
	}
	return b.String()
}

func listed(c api.Claim) string {
	var b strings.Builder
	fmt.Fprintf(&b, " {dead %t", c.Dead)
	for n, t := range c.Regs {
		if t != (api.Tag{}) {
			fmt.Fprintf(&b, " r%d %v", n, t)
		}
	}
	for n, t := range c.Stack {
		if t != (api.Tag{}) {
			fmt.Fprintf(&b, " slot %d %v", n, t)
		}
	}
	for n, c := range c.Cons {
		if n == 20 {
			b.WriteString(" ..")
			break
		}
		fmt.Fprintf(&b, " %d - %d <= %d;", c.I, c.J, c.C)
	}
	return b.String() + "}"
}
