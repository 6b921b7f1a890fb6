package pack

import (
	"slices"

	"warrant/api"
)

// wrong is the error of the sizes of a container or a program.
func wrong(lo, hi int, tables []api.Table, data []byte) api.Errno {
	switch {
	case lo < 0 || lo > hi || hi > api.MaxCtx:
		return api.ErrLens
	case len(tables) > api.MaxTables || slices.ContainsFunc(tables, odd):
		return api.ErrTable
	case len(data) > api.MaxData:
		return api.ErrData
	}
	return api.OK
}

func odd(t api.Table) bool { return !rows(t.Rows) || !wide(t.Wide) }

// rows and wide tell which sizes a table may have.
func rows(n int) bool { return n >= 1 && n <= api.MaxRows }
func wide(n int) bool { return n >= 1 && n <= api.MaxWide }

// lost is what instructions that are right by themselves lack as a program's: there are none, or one points beyond so many bytes of data.
func lost(l []api.Ins, data int) (at int, e api.Errno) {
	if len(l) == 0 {
		return 0, api.ErrNoIns
	}
	beyond := func(i api.Ins) bool { return i.Op == api.OpData && i.Imm > data }
	if at = slices.IndexFunc(l, beyond); at >= 0 {
		return at, api.ErrData
	}
	return 0, api.OK
}
