package flow_test

import (
	"fmt"
	"strings"

	"warrant/api"
	"warrant/asm"
)

// told is a program for a message: each instruction's text, or its fields.
func told(l []api.Ins) string {
	var b strings.Builder
	for n, i := range l {
		if n == 40 {
			fmt.Fprintf(&b, " .. of %d", len(l))
			break
		}
		text, e := asm.Line(i)
		if e != api.OK {
			text = fmt.Sprintf("%+v", i)
		}
		fmt.Fprintf(&b, " %d: %s;", n, text)
	}
	return b.String()
}
