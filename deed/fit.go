package deed

import (
	"slices"

	"warrant/api"
	"warrant/shape"
)

// falls tells whether a rank may be one of a program's loop: of what the run itself has, and with a fall.
func falls(l api.Loop) bool {
	own := within(l.A, 0, api.VarGhost-1) && within(l.B, 0, api.VarGhost-1) && l.A != l.B
	return own && constant(l.K) && within(l.D, 1, api.MaxConst)
}

// unfit is the first thing for which a claim can't be that of a program's block.
func unfit(c api.Claim, tables, block int, loops []api.Around) api.Errno {
	for n := range len(c.Regs) {
		if astray(c.Regs[n], tables) {
			return api.ErrKind
		}
	}
	for n := range api.Slots {
		if astray(c.Stack[n], tables) {
			return api.ErrKind
		}
	}
	for _, con := range c.Cons {
		if !constant(con.C) {
			return api.ErrCons
		}
	}
	if _, e := shape.From(c); e != api.OK {
		return e
	}
	for _, con := range c.Cons {
		if lost(con.I, block, loops) || lost(con.J, block, loops) {
			return api.ErrGhost
		}
	}
	return api.OK
}

// astray tells whether a tag names a table that is not there.
func astray(t api.Tag, tables int) bool { return tabled(t.Kind) && !within(t.Table, 0, tables-1) }

// lost tells whether a variable is a ghost of which a block's claim can't speak: a loop's ghosts are set at its head, and known in the loop alone.
func lost(v, block int, loops []api.Around) bool {
	if v < api.VarGhost {
		return false
	}
	loop := (v - api.VarGhost) / 2
	if loop >= len(loops) || loops[loop].Head == block {
		return true
	}
	_, in := slices.BinarySearch(loops[loop].Blocks, block)
	return !in
}
