package step_test

import (
	"maps"
	"math"
	"testing"

	"warrant/api"
	"warrant/help"
	"warrant/shape"
)

// The variables of r1 and r2; r3's is x.
const (
	r1 = 3
	r2 = 4
)

// fact is what is known of one register or slot.
type fact struct {
	tag api.Tag
	cs  []api.Con // by the variable 1, which stands for that one's
}

func between(tag api.Tag, lo, hi int) fact { return fact{tag, ranged(1, lo, hi)} }

// facts are those of a shape, by variables.
type facts map[int]fact

func (f facts) but(v int, now fact) facts {
	f = maps.Clone(f)
	f[v] = now
	return f
}

func (f facts) without(vs ...int) facts {
	f = maps.Clone(f)
	for _, v := range vs {
		delete(f, v)
	}
	return f
}

func (f facts) shape(t *testing.T, cs ...[]api.Con) *shape.Shape {
	t.Helper()
	l := tags{}
	for v, known := range f {
		l[v] = known.tag
		for _, c := range known.cs {
			if c.I != 0 {
				c.I = v
			}
			if c.J != 0 {
				c.J = v
			}
			cs = append(cs, cons(c))
		}
	}
	return of(t, l, cs...)
}

// given is what a helper takes: pieces of 4 to 6 bytes, from the offset 0 or 1 on, numbers 2 or 3; HelpRow the table 1. The context has 8 bytes at least, those of the slot 0 are written. Besides there are a pointer in r0, numbers in r6 and the slot 1.
func given(t *testing.T, id int, region api.Tag) (facts, []api.Con) {
	t.Helper()
	sig, is := help.Sig(id)
	if !is {
		t.Fatalf("no helper %d", id)
	}
	f := facts{r0: between(kind(api.KindCtx), 9, 9), 8: between(num(), 5, 6), slot0: between(num(), 1, 2), slot0 + 1: between(num(), 3, 4)}
	for k, arg := range sig.Args {
		switch arg {
		case api.ArgNum:
			f[r1+k] = between(num(), 2, 3)
		case api.ArgLen:
			f[r1+k] = between(num(), 4, 6)
		case api.ArgRead, api.ArgWrite:
			f[r1+k] = between(region, 0, 1)
		}
	}
	if id == api.HelpRow {
		f[r1] = between(num(), 1, 1)
	}
	return f, from(1, 8)
}

// regions are those into which a piece may point, 8 bytes at least.
func regions() []api.Tag {
	return []api.Tag{kind(api.KindStack), kind(api.KindCtx), kind(api.KindData), row(0)}
}

func args(t *testing.T, id int) []int {
	t.Helper()
	sig, _ := help.Sig(id)
	return sig.Args
}

// writesPiece tells which helpers write r1's piece.
func writesPiece(id int) bool { return id == api.HelpCopy || id == api.HelpFill }

// lengthOf is the variable of a helper's length.
func lengthOf(id int) int {
	if id == api.HelpSum || id == api.HelpFind {
		return r2
	}
	return x
}

// lending are the helpers that are lent a piece.
func lending() []int {
	return []int{api.HelpSum, api.HelpCopy, api.HelpFill, api.HelpDiff, api.HelpFind}
}

// wantCalled: the helper takes the shape, or answers TrapCall.
func wantCalled(t *testing.T, s *shape.Shape, id int, is bool) {
	t.Helper()
	if !is {
		wantTrap(t, api.TrapCall, doing(s, calling(id)))
	} else if now, e := doing(s, calling(id)).held(t, program()); e != api.OK || now.Dead() {
		t.Errorf("%s: %s, %v", doing(s, calling(id)).told(), told(now), e)
	}
}

// TestHelpers (P10.7): each helper over what it takes, in each region: r0 is its answer, r1 to r5 are nothing, all else stays.
func TestHelpers(t *testing.T) {
	answers := map[int]fact{
		api.HelpSum: between(num(), 0, 65535), api.HelpCopy: between(num(), 0, 0), api.HelpFill: between(num(), 0, 0), api.HelpDiff: between(num(), -1, 1),
		api.HelpFind: between(num(), -1, 5), api.HelpEmit: between(num(), -1, 0), api.HelpRow: between(row(1), 0, 0), api.HelpMix: {tag: num()},
	}
	for id, want := range answers {
		for _, region := range regions() {
			f, cs := given(t, id, region)
			f[7] = fact{tag: maybe(1)}
			after := f.without(r1, r2, x, 6, 7).but(r0, want)
			if writesPiece(id) && region == kind(api.KindStack) {
				after = after.but(slot0, fact{tag: mask(255)})
			}
			if writesPiece(id) && region == kind(api.KindData) {
				wantCalled(t, f.shape(t, cs), id, false)
				continue
			}
			wantIs(t, doing(f.shape(t, cs), calling(id)), after.shape(t, cs))
		}
	}
	for _, id := range []int{0, 9, -1, 10, 1<<31 - 1, -1 << 31} {
		f, cs := given(t, api.HelpMix, num())
		wantCalled(t, f.shape(t, cs), id, false)
	}
}

// TestArguments (P10.7): each register of each helper, of every other kind.
func TestArguments(t *testing.T) {
	for id := api.HelpSum; id <= api.HelpMix; id++ {
		for _, region := range []api.Tag{kind(api.KindCtx), row(0)} {
			f, cs := given(t, id, region)
			for k, arg := range args(t, id) {
				for _, now := range append(kinds(), row(7)) {
					is := arg == api.ArgNone
					other := fact{tag: now}
					switch {
					case arg == api.ArgNum || arg == api.ArgLen:
						other, is = f[r1+k], isNum(now)
					case arg == api.ArgRead || arg == api.ArgWrite:
						other = f[r1+k]
						is = now == row(0) || isFixed(now) && (arg == api.ArgRead || now.Kind != api.KindData)
					}
					if other.tag = now; !has(now) {
						other.cs = nil
					}
					wantCalled(t, f.but(r1+k, other).shape(t, cs), id, is)
				}
			}
		}
	}
}

// TestLengths (P10.7): a length from 0 to MaxSpan, one below and one above; of which an end is not known.
func TestLengths(t *testing.T) {
	for _, id := range lending() {
		n := lengthOf(id)
		f, _ := given(t, id, kind(api.KindCtx))
		room := from(1, 1<<20)
		for _, c := range []struct {
			length fact
			is     bool
		}{
			{between(num(), 0, 0), true}, {between(num(), 0, 65535), true}, {between(num(), 65535, 65535), true}, {between(num(), -1, 5), false}, {between(num(), -1, -1), false}, {between(num(), 0, 65536), false}, {between(num(), 65536, 65536), false},
			{fact{num(), from(1, 0)}, false}, {fact{num(), upTo(1, 5)}, false}, {fact{tag: num()}, false},
		} {
			wantCalled(t, f.but(n, c.length).shape(t, room), id, c.is)
		}
		g, cs := given(t, id, row(0))
		wantCalled(t, g.but(n, between(num(), 0, 0)).shape(t, cs), id, true)
		wantCalled(t, g.but(n, fact{num(), upTo(1, 5)}).shape(t, cs), id, false)
	}
}

// aside gives a second piece another place, if there is one.
func aside(f facts, v int, now fact) facts {
	if isNum(f[v].tag) {
		return f
	}
	return f.but(v, now)
}

// TestPieces (P10.7): a piece at its region's end and one past it, at its beginning and one ahead of it; of the length 0; by ends that are not known.
func TestPieces(t *testing.T) {
	rooms := map[api.Tag]int{kind(api.KindStack): 256, kind(api.KindData): 16, row(0): 8, row(1): 3}
	for _, id := range lending() {
		for region, room := range rooms {
			if writesPiece(id) && region.Kind == api.KindData {
				continue
			}
			f, cs := given(t, id, region)
			for v := slot0; v <= slot31; v++ {
				f[v] = fact{tag: num()}
			}
			n := lengthOf(id)
			f = aside(f, r2, between(kind(api.KindStack), 0, 0))
			for _, c := range []struct {
				lo, hi, least, most int
				is                  bool
			}{
				{0, 0, room, room, true}, {0, 0, 0, room, true}, {0, 0, 0, room + 1, false}, {1, 1, room - 1, room - 1, true}, {1, 1, room, room, false}, {0, 1, 0, room - 1, true}, {0, 1, 0, room, false},
				{room, room, 0, 0, true}, {room, room, 1, 1, false}, {room + 1, room + 1, 0, 0, false}, {-1, -1, 0, 0, false}, {-1, 0, 1, 1, false}, {0, room, 0, 0, true},
			} {
				wantCalled(t, f.but(n, between(num(), c.least, c.most)).but(r1, between(region, c.lo, c.hi)).shape(t, cs), id, c.is)
			}
			for _, ends := range [][]api.Con{from(1, 0), upTo(1, 0), nil} {
				wantCalled(t, f.but(n, between(num(), 0, 0)).but(r1, fact{region, ends}).shape(t, cs), id, false)
			}
		}
	}
	f, cs := given(t, api.HelpDiff, row(0)) // the second piece as the first
	wantCalled(t, f.but(r2, between(row(1), 0, 0)).but(x, between(num(), 0, 3)).shape(t, cs), api.HelpDiff, true)
	wantCalled(t, f.but(r2, between(row(1), 0, 1)).but(x, between(num(), 0, 3)).shape(t, cs), api.HelpDiff, false)
}

// TestPiecesOfContext (P10.7): the pointer's distance from the end and the greatest length, or the length's and the greatest offset, whichever says more.
func TestPiecesOfContext(t *testing.T) {
	for _, id := range lending() {
		f, _ := given(t, id, kind(api.KindCtx))
		f = aside(f, r2, between(row(0), 0, 0)) // one piece alone is in question
		n := lengthOf(id)
		try := func(is bool, p, length fact, cs ...[]api.Con) {
			t.Helper()
			wantCalled(t, f.but(r1, p).but(n, length).shape(t, cs...), id, is)
		}
		ctx, open := kind(api.KindCtx), fact{kind(api.KindCtx), from(1, 0)}
		try(true, open, between(num(), 2, 5), cons(con(r1, 1, -5)))
		try(false, open, between(num(), 2, 5), cons(con(r1, 1, -4)))
		try(false, open, fact{num(), from(1, 0)}, cons(con(r1, 1, -9)))
		try(true, between(ctx, 3, 7), between(num(), 0, 8), cons(con(n, 1, -7)))
		try(false, between(ctx, 3, 7), between(num(), 0, 8), cons(con(n, 1, -6)))
		try(true, between(ctx, 0, 0), between(num(), 0, 8), cons(con(n, 1, 0)))
		try(false, between(ctx, 0, 0), between(num(), 0, 8), cons(con(n, 1, 1)))
		try(false, open, between(num(), 0, 8), cons(con(n, 1, -9)))
		try(false, fact{ctx, cons(con(0, 1, 1), con(1, 0, 0))}, between(num(), 0, 0), from(1, 9))
		try(true, between(ctx, 9, 9), between(num(), 0, 0), from(1, 9))
		try(false, between(ctx, 9, 9), between(num(), 0, 1), from(1, 9))
		try(false, between(ctx, 0, 0), between(num(), 0, 0))
		try(true, between(ctx, 0, 0), between(num(), 0, 0), from(1, 0))
	}
}

// TestPiecesRead (P10.7): of the stack each byte that may be read is written; what lies beside them need not be.
func TestPiecesRead(t *testing.T) {
	stack := kind(api.KindStack)
	for _, c := range []struct {
		id, p int
	}{{api.HelpSum, r1}, {api.HelpFind, r1}, {api.HelpDiff, r1}, {api.HelpDiff, r2}, {api.HelpCopy, r2}} {
		f, cs := given(t, c.id, row(0))
		f = f.but(c.p, between(stack, 9, 10)).but(lengthOf(c.id), between(num(), 0, 4)) // the bytes 9 to 13, of the slot 1 those from 1 to 5
		for _, now := range slots() {
			is := isNum(now) || now.Kind == api.KindNone && now.Mask&0b111110 == 0b111110
			wantCalled(t, f.but(slot0+1, fact{tag: now}).shape(t, cs), c.id, is)
			wantCalled(t, f.but(slot0, fact{tag: now}).but(slot0+2, fact{tag: now}).shape(t, cs), c.id, true)
		}
		for bit := range 8 {
			now := fact{tag: mask(255 - 1<<bit)}
			wantCalled(t, f.but(slot0+1, now).shape(t, cs), c.id, bit == 0 || bit > 5)
		}
		none := f.but(c.p, between(stack, 9, 9)).but(lengthOf(c.id), between(num(), 0, 0)).without(slot0 + 1)
		wantCalled(t, none.shape(t, cs), c.id, true)
		wantCalled(t, none.but(c.p, between(stack, 9, 10)).shape(t, cs), c.id, false)
	}
}

// TestPiecesWritten (P10.7): slots of which bytes may be written: those that were written stay so, and if the piece is just one, its bytes are.
func TestPiecesWritten(t *testing.T) {
	stack := kind(api.KindStack)
	for _, id := range []int{api.HelpCopy, api.HelpFill} {
		f, cs := given(t, id, row(0))
		f = aside(f, r2, between(kind(api.KindData), 0, 0))
		n := lengthOf(id)
		for _, old := range slots() {
			for _, c := range []struct {
				lo, hi, least, most int
				first, second       int // bytes that are surely written, of the slots 1 and 2
			}{{9, 9, 4, 4, 0b11110, 0}, {9, 9, 3, 4, 0, 0}, {9, 10, 3, 3, 0, 0}, {14, 14, 4, 4, 0b11000000, 0b11}, {8, 8, 8, 8, 255, 0}, {8, 9, 8, 8, 0, 0}, {13, 15, 0, 3, 0, 0}, {9, 9, 0, 0, 0, 0}, {9, 10, 0, 0, 0, 0}} {
				known := fact{tag: old}
				if has(old) {
					known = between(old, 1, 2)
				}
				s := f.but(r1, between(stack, c.lo, c.hi)).but(n, between(num(), c.least, c.most)).but(slot0+1, known).but(slot0+2, known)
				after := s.without(r1, r2, x).but(r0, between(num(), 0, 0))
				if c.hi+c.most > 8 && c.hi+c.most > c.lo {
					after = after.but(slot0+1, fact{tag: mask(written(old) | c.first)})
				}
				if c.hi+c.most > 16 {
					after = after.but(slot0+2, fact{tag: mask(written(old) | c.second)})
				}
				wantIs(t, doing(s.shape(t, cs), calling(id)), after.shape(t, cs))
			}
		}
	}
	f, cs := given(t, api.HelpCopy, stack) // what is read is looked at ahead, what is written then
	f = f.but(r1, between(stack, 8, 8)).but(r2, between(stack, 0, 0)).but(x, between(num(), 8, 8)).without(slot0 + 1)
	wantIs(t, doing(f.shape(t, cs), calling(api.HelpCopy)), f.without(r1, r2, x).but(r0, between(num(), 0, 0)).but(slot0+1, fact{tag: mask(255)}).shape(t, cs))
}

// TestFind (P10.7): the place is below the length, whose bounds stand to the others still.
func TestFind(t *testing.T) {
	f, cs := given(t, api.HelpFind, kind(api.KindCtx))
	f = f.but(r1, between(kind(api.KindCtx), 0, 0)).but(r2, between(num(), 0, 30)).without(8)
	s := f.shape(t, cs, cons(con(r2, 1, -2), con(r2, 59, 3)))
	after := f.without(r1, r2, x).but(r0, between(num(), -1, 29))
	wantIs(t, doing(s, calling(api.HelpFind)), after.shape(t, cs, cons(con(r0, 1, -3), con(r0, 59, 2), con(0, 59, 3))))
	none := f.but(r2, between(num(), 0, 0))
	wantIs(t, doing(none.shape(t, cs), calling(api.HelpFind)), after.but(r0, between(num(), -1, -1)).shape(t, cs))
}

// TestRow (P10.7): the first and the last table and one outside; the first and the last row and one outside; what is not one number.
func TestRow(t *testing.T) {
	try := func(want, table, r fact) {
		t.Helper()
		s := facts{r1: table, r2: r}.shape(t)
		if want.tag == (api.Tag{}) {
			wantTrap(t, api.TrapCall, doing(s, calling(api.HelpRow)))
			return
		}
		wantIs(t, doing(s, calling(api.HelpRow)), facts{r0: want}.shape(t))
	}
	for n, rows := range []int{4, 64} {
		table := between(num(), n, n)
		for _, c := range [][2]int{{0, 0}, {0, rows - 1}, {rows - 1, rows - 1}, {1, 2}} {
			try(between(row(n), 0, 0), table, between(num(), c[0], c[1]))
		}
		for _, c := range [][2]int{{-1, 0}, {0, rows}, {rows, rows}, {-1, -1}, {-most, most}} {
			try(fact{tag: maybe(n)}, table, between(num(), c[0], c[1]))
		}
		for _, cs := range [][]api.Con{from(1, 0), upTo(1, 2), nil} {
			try(fact{tag: maybe(n)}, table, fact{num(), cs})
		}
	}
	r := between(num(), 0, 0)
	for _, table := range []fact{between(num(), -1, -1), between(num(), 2, 2), between(num(), 0, 1), {num(), from(1, 0)}, {num(), upTo(1, 0)}, {tag: num()}, between(num(), most, most)} {
		try(fact{}, table, r)
	}
	for _, c := range []struct {
		p    api.Program
		want api.Tag
		e    api.Errno
	}{
		{api.Program{}, api.Tag{}, api.TrapCall}, {api.Program{Tables: []api.Table{{}}}, maybe(0), api.OK}, {api.Program{Tables: []api.Table{{Rows: 1}}}, row(0), api.OK},
		{api.Program{Tables: []api.Table{{Rows: math.MinInt}}}, maybe(0), api.OK}, {api.Program{Tables: []api.Table{{Rows: math.MaxInt}}}, row(0), api.OK},
	} {
		s, e := doing(facts{r1: r, r2: r}.shape(t), calling(api.HelpRow)).held(t, c.p)
		if e != c.e || e == api.OK && s.Tag(r0) != c.want {
			t.Errorf("%v: %s, %v", c.p.Tables, told(s), e)
		}
	}
	s := facts{r1: between(num(), 7, 7), r2: r}.shape(t)
	full := api.Program{Tables: make([]api.Table, 8)}
	if now, e := doing(s, calling(api.HelpRow)).held(t, full); e != api.OK || now.Tag(r0) != maybe(7) {
		t.Errorf("the last table: %s, %v", told(now), e)
	}
}
