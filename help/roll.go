package help

import (
	"slices"
	"sync"

	"warrant/api"
)

// helper describes one of those that programs may call.
type helper interface {
	args() []int // what each of r1 to r5 must hold
	ret() api.Span
}

// roll holds the helpers by their ids. It is written when it is first asked, and no second time.
type roll struct {
	once    sync.Once
	written []helper
}

func (r *roll) helpers() []helper {
	r.once.Do(func() { r.written = all() })
	return r.written
}

// has tells whether there is a helper of that id; none has the id 0.
func (r *roll) has(id int) bool { return 0 < id && id < len(r.helpers()) }

// helper is the one of an id that the roll has.
func (r *roll) helper(id int) helper { return r.helpers()[id] }

func all() []helper {
	return []helper{
		api.HelpSum:  bounded{asked{api.ArgRead, api.ArgLen, api.ArgNum}, 0, full},
		api.HelpCopy: bounded{asked{api.ArgWrite, api.ArgRead, api.ArgLen}, 0, 0},
		api.HelpFill: bounded{asked{api.ArgWrite, api.ArgNum, api.ArgLen}, 0, 0},
		api.HelpDiff: bounded{asked{api.ArgRead, api.ArgRead, api.ArgLen}, -1, 1},
		api.HelpFind: bounded{asked{api.ArgRead, api.ArgLen, api.ArgNum}, -1, api.MaxSpan - 1},
		api.HelpEmit: bounded{asked{api.ArgNum}, -1, 0},
		api.HelpRow:  bounded{asked{api.ArgNum, api.ArgNum}, 0, 0},
		api.HelpMix:  boundless{asked{api.ArgNum, api.ArgNum}},
	}
}

// asked is what r1 to r5 must hold; where nothing is written, that is api.ArgNone.
type asked [5]int

// args answers a new list each time: the caller may write into it.
func (a asked) args() []int { return slices.Clone(a[:]) }

// bounded answers a number from lo to hi.
type bounded struct {
	asked
	lo, hi int
}

func (h bounded) ret() api.Span { return api.Span{Lo: h.lo, Hi: h.hi} }

// boundless answers any number.
type boundless struct{ asked }

func (boundless) ret() api.Span { return api.Span{NoLo: true, NoHi: true} }
