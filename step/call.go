package step

import (
	"slices"

	"warrant/api"
	"warrant/help"
)

// The registers of a helper.
const (
	firstArg = 1
	lastArg  = 5
)

// piece is what a helper is lent: a pointer, and the number of the bytes from there on.
type piece struct {
	operand
	length operand
}

func (w *way) call(i api.Ins) api.Errno {
	sig, is := help.Sig(i.Imm)
	if !is || !w.given(sig.Args) || i.Imm == api.HelpRow && !w.hasTable() {
		return api.TrapCall
	}
	for k, arg := range sig.Args {
		if arg == api.ArgWrite {
			w.overwrite(w.piece(sig.Args, k))
		}
	}
	w.answered(i.Imm, sig)
	for r := firstArg; r <= lastArg; r++ {
		w.free(variable(r), api.Tag{})
	}
	return api.OK
}

// given tells whether r1 to r5 are as a helper asks for them.
func (w *way) given(args []int) bool {
	for k, arg := range args {
		if !w.isGiven(args, k, arg) {
			return false
		}
	}
	return true
}

func (w *way) isGiven(args []int, k, arg int) bool {
	switch arg {
	case api.ArgNum, api.ArgLen:
		return isNum(w.reg(firstArg + k))
	case api.ArgRead:
		p := w.piece(args, k)
		return w.lends(p) && w.unread(w.lent(p).masks()) == api.OK
	case api.ArgWrite:
		p := w.piece(args, k)
		return w.lends(p) && p.Kind != api.KindData
	}
	return true
}

// piece is that of a pointer's register; its length stands in the next register that is one.
func (w *way) piece(args []int, k int) piece {
	n := k + slices.Index(args[k:], api.ArgLen)
	return piece{w.reg(firstArg + k), w.reg(firstArg + n)}
}

// lends tells whether a piece lies in its region.
func (w *way) lends(p piece) bool {
	if !w.points(p.operand) {
		return false
	}
	from, n := w.span(p.term), w.span(p.length.term)
	switch {
	case n.NoLo || n.Lo < 0 || n.NoHi || n.Hi > api.MaxSpan, from.NoLo || from.Lo < 0:
		return false
	case p.Kind == api.KindCtx:
		b, _ := w.sumBounds(p.v, p.length.v, api.VarLen)
		return b.Is && b.C <= 0
	}
	return !from.NoHi && from.Hi+n.Hi <= w.size(p.operand)
}

// lent tells what a piece, which lies in its region, is.
func (w *way) lent(p piece) touched {
	if p.Kind != api.KindStack {
		return elsewhere{}
	}
	from, n := w.span(p.term), w.span(p.length.term)
	return stretch{from.Lo, from.Hi + n.Hi, single(from) && single(n)}
}

// overwrite: a piece is written.
func (w *way) overwrite(p piece) {
	if t, is := w.lent(p).(stretch); is {
		w.write(t.masks(), t.fixed)
	}
}

// hasTable tells whether r1 is the number of one table, of which a tag can tell.
func (w *way) hasTable() bool {
	s := w.span(w.reg(firstArg).term)
	return single(s) && 0 <= s.Lo && s.Lo < min(len(w.p.Tables), api.MaxTables)
}

// answered makes r0 what a helper answers, while its registers still stand.
func (w *way) answered(id int, sig api.Sig) {
	r0 := variable(0)
	switch id {
	case api.HelpRow:
		w.put(r0, w.row())
	case api.HelpFind:
		n := w.reg(firstArg + slices.Index(sig.Args, api.ArgLen))
		w.freeIn(r0, api.Span{Lo: -1, Hi: high(w.span(n.term)) - 1})
		w.with(r0, n.v, -1)
	default:
		w.freeIn(r0, sig.Ret)
	}
}

// row is the row r2 of the table r1, or nothing where there may be no such row.
func (w *way) row() operand {
	table, r := w.span(w.reg(firstArg).term).Lo, w.span(w.reg(firstArg+1).term)
	if low(r) >= 0 && high(r) < w.p.Tables[table].Rows {
		return operand{api.Tag{Kind: api.KindRow, Table: table}, term{zero, 0}}
	}
	return operand{Tag: api.Tag{Kind: api.KindMaybe, Table: table}}
}
