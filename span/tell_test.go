package span_test

import (
	"fmt"

	"warrant/api"
)

// told is a span for a message; one that is not sound as its fields.
func told(s api.Span) string {
	if !sound(s) {
		return fmt.Sprintf("%+v", s)
	}
	lo, hi := fmt.Sprint(s.Lo), fmt.Sprint(s.Hi)
	if s.NoLo {
		lo = "no end"
	}
	if s.NoHi {
		hi = "no end"
	}
	return "[" + lo + ", " + hi + "]"
}

// called is a call of Alu for a message.
func called(op int, narrow bool, a, b api.Span) string {
	return fmt.Sprintf("Alu(%d, %v, %s, %s)", op, narrow, told(a), told(b))
}
