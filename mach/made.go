package mach

import (
	"slices"

	"warrant/api"
	"warrant/code"
)

// wellMade tells whether a program may be run at all; where its jumps go is not asked.
func wellMade(p api.Program) bool {
	if p.Lo < 0 || p.Lo > p.Hi || p.Hi > api.MaxCtx || len(p.Data) > api.MaxData || len(p.Tables) > api.MaxTables || len(p.Code) == 0 {
		return false
	}
	if slices.ContainsFunc(p.Tables, odd) {
		return false
	}
	if _, e := code.Check(p.Code); e != api.OK {
		return false
	}
	beyond := func(i api.Ins) bool { return i.Op == api.OpData && i.Imm > len(p.Data) }
	return !slices.ContainsFunc(p.Code, beyond)
}

// odd tells whether a table has a size that none may have.
func odd(t api.Table) bool {
	return t.Rows < 1 || t.Rows > api.MaxRows || t.Wide < 1 || t.Wide > api.MaxWide
}

// fits tells whether an input is one of a program that is well made.
func fits(p api.Program, in api.Input) bool {
	if len(in.Ctx) < p.Lo || len(in.Ctx) > p.Hi || len(in.Tables) != len(p.Tables) {
		return false
	}
	for n, t := range p.Tables {
		if len(in.Tables[n]) != t.Rows*t.Wide {
			return false
		}
	}
	return true
}
