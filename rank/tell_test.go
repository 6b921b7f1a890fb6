package rank_test

import (
	"fmt"
	"strings"

	"warrant/api"
	"warrant/asm"
)

func sprintf(text string, more ...any) string { return fmt.Sprintf(text, more...) }

func listed(c api.Claim) string {
	if c.Dead && len(c.Cons) == 0 {
		return "dead"
	}
	var b strings.Builder
	b.WriteString("{")
	for n, t := range c.Regs {
		if t != (api.Tag{}) {
			fmt.Fprintf(&b, " r%d %v", n, t)
		}
	}
	for n, t := range c.Stack {
		if t != (api.Tag{}) {
			fmt.Fprintf(&b, " slot %d %v", n, t)
		}
	}
	for n, c := range c.Cons {
		if n == 40 {
			b.WriteString(" ..")
			break
		}
		fmt.Fprintf(&b, " %d - %d <= %d;", c.I, c.J, c.C)
	}
	return b.String() + " }"
}

// told is a pair for a message: the beginning of its code and of its lists.
func (c pair) told() string {
	var b strings.Builder
	fmt.Fprintf(&b, "Lo %d, Hi %d, %d bytes of data, tables %v", c.p.Lo, c.p.Hi, len(c.p.Data), c.p.Tables)
	for n, i := range c.p.Code {
		if n == 60 {
			b.WriteString("\n..")
			break
		}
		fmt.Fprintf(&b, "\n%d %s", n, spelt(i))
	}
	fmt.Fprintf(&b, "\nloops %v", c.d.Loops)
	for n, claim := range c.d.Claims {
		if n == 16 {
			b.WriteString("\n..")
			break
		}
		fmt.Fprintf(&b, "\nblock %d %s", n, listed(claim))
	}
	return b.String() + "\n"
}

// spelt is an instruction for a message.
func spelt(i api.Ins) string {
	if s, e := asm.Line(i); e == api.OK {
		return s
	}
	return fmt.Sprintf("%+v", i)
}
