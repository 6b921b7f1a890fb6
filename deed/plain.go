package deed

import "warrant/api"

// allBytes is the mask of a slot of which each byte is written.
const allBytes = 1<<8 - 1

// mostCons is how many constraints a claim can have: one for each two variables, either way round.
const mostCons = api.Vars * (api.Vars - 1)

func within(n, least, most int) bool { return least <= n && n <= most }

// The numbers that a plain deed may have in its places: writer and reader ask the same ones.
func head(n int) bool     { return within(n, 0, api.MaxBlocks-1) }
func variable(n int) bool { return within(n, 0, api.Vars-1) }
func constant(n int) bool { return within(n, -api.MaxConst, api.MaxConst) }
func fall(n int) bool     { return within(n, 0, api.MaxConst) }
func kind(n int) bool     { return within(n, api.KindNone, api.KindMaybe) }
func table(n int) bool    { return within(n, 0, api.MaxTables-1) }
func slot(n int) bool     { return within(n, 0, api.Slots-1) }
func written(n int) bool  { return within(n, 1, allBytes) }

// tabled tells whether a tag of that kind names a table.
func tabled(kind int) bool { return kind == api.KindRow || kind == api.KindMaybe }

// wrong is the first thing for which a deed is not plain.
func wrong(d api.Deed) api.Errno {
	if len(d.Loops) > api.MaxLoops || len(d.Claims) > api.MaxBlocks {
		return api.ErrCount
	}
	for _, l := range d.Loops {
		if !head(l.Head) || !variable(l.A) || !variable(l.B) || !constant(l.K) || !fall(l.D) {
			return api.ErrLoop
		}
	}
	for _, c := range d.Claims {
		if e := wrongClaim(c); e != api.OK {
			return e
		}
	}
	return api.OK
}

func wrongClaim(c api.Claim) api.Errno {
	bare := c.Regs == [10]api.Tag{} && c.Stack == [api.Slots]api.Tag{} && len(c.Cons) == 0
	switch {
	case c.Dead && bare:
		return api.OK
	case c.Dead:
		return api.ErrDead
	case !plainTags(c):
		return api.ErrKind
	}
	for n, con := range c.Cons {
		if !variable(con.I) || !variable(con.J) || con.I == con.J || !constant(con.C) {
			return api.ErrCons
		}
		if !rises(c.Cons[:n], con) {
			return api.ErrOrder
		}
	}
	return api.OK
}

func plainTags(c api.Claim) bool {
	for n := range len(c.Regs) {
		if c.Regs[n].Mask != 0 || !plainTag(c.Regs[n]) {
			return false
		}
	}
	for n := range api.Slots {
		if !plainTag(c.Stack[n]) {
			return false
		}
	}
	return true
}

// plainTag tells whether a slot may have the tag; a register may, if there is no mask in it.
func plainTag(t api.Tag) bool {
	switch {
	case tabled(t.Kind):
		return table(t.Table) && t.Mask == 0
	case t.Kind == api.KindNone:
		return t.Table == 0 && (t.Mask == 0 || written(t.Mask))
	}
	return kind(t.Kind) && t.Table == 0 && t.Mask == 0
}

// rises tells whether a constraint may stand behind those ahead of it.
func rises(ahead []api.Con, c api.Con) bool {
	if len(ahead) == 0 {
		return true
	}
	last := ahead[len(ahead)-1]
	return c.I > last.I || c.I == last.I && c.J > last.J
}
