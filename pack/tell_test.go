package pack_test

import (
	"fmt"

	"warrant/api"
)

// cut is bytes for a message: the beginning of them.
func cut(b []byte) string {
	if len(b) > 100 {
		return fmt.Sprintf("% x .. of %d", b[:100], len(b))
	}
	return fmt.Sprintf("% x", b)
}

// told is a container for a message.
func told(k api.Pack) string {
	return sized(k.Lo, k.Hi, k.Tables, k.Data) + ", code " + cut(k.Code)
}

// listed is a program for a message: the beginning of its instructions.
func listed(p api.Program) string {
	s := sized(p.Lo, p.Hi, p.Tables, p.Data) + ", code"
	for n, i := range p.Code {
		if n == 8 {
			return s + fmt.Sprintf(" .. of %d", len(p.Code))
		}
		s += fmt.Sprintf(" %v", i)
	}
	return s
}

func sized(lo, hi int, tables []api.Table, data []byte) string {
	more := ""
	if len(tables) > 10 {
		more, tables = fmt.Sprintf(" .. of %d", len(tables)), tables[:10]
	}
	return fmt.Sprintf("%d to %d, tables %v%s, data %s", lo, hi, tables, more, cut(data))
}
