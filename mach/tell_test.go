package mach_test

import (
	"fmt"
	"strings"

	"warrant/api"
	"warrant/asm"
)

// told is a program for a message: each instruction's text, or its fields.
func told(l []api.Ins) string {
	var b strings.Builder
	for n, i := range l {
		if n == 60 {
			fmt.Fprintf(&b, " .. of %d", len(l))
			break
		}
		text, e := asm.Line(i)
		if e != api.OK {
			text = fmt.Sprintf("%+v", i)
		}
		fmt.Fprintf(&b, " %d: %s;", n, text)
	}
	return b.String()
}

// shown is a state for a message: what of its registers and slots is there.
func shown(s api.State) string {
	var b strings.Builder
	fmt.Fprintf(&b, " at %d, %d steps, done %v;", s.At, s.Steps, s.Done)
	for r, v := range s.Regs {
		if v != (api.Value{}) {
			fmt.Fprintf(&b, " r%d %v", r, v)
		}
	}
	for n, slot := range s.Stack {
		if slot != (api.Slot{}) {
			fmt.Fprintf(&b, " slot %d %v", n, slot)
		}
	}
	ctx, tables := s.Ctx, s.Tables
	if len(ctx) > 100 {
		ctx, tables = ctx[:100], nil
	}
	fmt.Fprintf(&b, " ctx %x tables %x sent %v", ctx, tables, s.Sent)
	return b.String()
}
