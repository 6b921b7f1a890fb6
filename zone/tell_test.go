package zone_test

import (
	"fmt"
	"strings"

	"warrant/api"
	"warrant/zone"
)

// told is a zone for a message: the beginning of its bounds.
func told(z *zone.Zone) string {
	switch {
	case z == nil:
		return "nil"
	case z.Empty():
		return "the empty zone"
	}
	return list(z.Cons())
}

func list(cs []api.Con) string {
	var b strings.Builder
	b.WriteString("{")
	for n, c := range cs {
		if n == 40 {
			fmt.Fprintf(&b, " .. of %d", len(cs))
			break
		}
		fmt.Fprintf(&b, " %d - %d <= %d;", c.I, c.J, c.C)
	}
	return b.String() + " }"
}
