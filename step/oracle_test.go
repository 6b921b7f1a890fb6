package step_test

import (
	"math/big"

	"warrant/api"
	"warrant/code"
	"warrant/help"
	"warrant/shape"
	"warrant/span"
	"warrant/zone"
)

// The chapter's rows once more, word by word and as plainly as can be: what the package answers is held against these. A trap is a panic here; numbers have any size.

const (
	vars = 60
	most = 1 << 60
)

// twin is a shape on its way, by the chapter's words.
type twin struct {
	p   api.Program
	s   *shape.Shape  // ahead
	tag [vars]api.Tag // behind, of each variable
	z   *zone.Zone    // behind
}

// term is a term of the chapter.
type term struct{ v, k int }

// reckoned is a shape that the words come to.
type reckoned struct {
	dead bool
	tag  [vars]api.Tag
	z    *zone.Zone
}

func reckonDead() reckoned { return reckoned{dead: true} }

// caught runs rows; a trap is what they panic with.
func (o *twin) caught(rows func()) (r reckoned, e api.Errno) {
	defer func() {
		if x := recover(); x != nil {
			r, e = reckoned{}, x.(api.Errno)
		}
	}()
	rows()
	if o.z.Empty() {
		return reckonDead(), api.OK
	}
	return reckoned{tag: o.tag, z: o.z}, api.OK
}

func newTwin(p api.Program, s *shape.Shape) *twin {
	o := &twin{p: p, s: s, z: s.Forget()}
	for v := range o.tag {
		o.tag[v] = s.Tag(v)
	}
	return o
}

func isConditional(op int) bool { return op >= api.OpJeq && op <= api.OpJset }

// reckonDo is Do by the chapter's words.
func reckonDo(p api.Program, s *shape.Shape, i api.Ins) (reckoned, api.Errno) {
	if _, e := code.Check([]api.Ins{i}); e != api.OK {
		return reckoned{}, e
	}
	if i.Op == api.OpJa || isConditional(i.Op) {
		return reckoned{}, api.ErrArg
	}
	if i.Op == api.OpData && i.Imm > len(p.Data) {
		return reckoned{}, api.ErrData
	}
	if s.Dead() {
		return reckonDead(), api.OK
	}
	o := newTwin(p, s)
	return o.caught(func() { o.do(i) })
}

// reckonTake is Take by the chapter's words.
func reckonTake(p api.Program, s *shape.Shape, i api.Ins, taken bool) (reckoned, api.Errno) {
	if _, e := code.Check([]api.Ins{i}); e != api.OK {
		return reckoned{}, e
	}
	if i.Op != api.OpJa && !isConditional(i.Op) {
		return reckoned{}, api.ErrArg
	}
	if s.Dead() {
		return reckonDead(), api.OK
	}
	o := newTwin(p, s)
	return o.caught(func() { o.take(i, taken) })
}

func (o *twin) do(i api.Ins) {
	switch i.Op {
	case api.OpWide, api.OpData, api.OpExit:
		o.constants(i)
	case api.OpLoad, api.OpLoads:
		o.load(i)
	case api.OpStore:
		o.store(i)
	case api.OpAtom:
		o.atom(i)
	case api.OpCall:
		o.call(i)
	default:
		if i.Narrow {
			o.narrow(i)
		} else {
			o.wide(i)
		}
	}
}

func (o *twin) refuseUnless(is bool, e api.Errno) {
	if !is {
		panic(e)
	}
}

// Words.

func (o *twin) tagOf(r int) api.Tag {
	if r == 10 {
		return api.Tag{Kind: api.KindStack}
	}
	return o.s.Tag(2 + r)
}

func (o *twin) kindOf(r int) int { return o.tagOf(r).Kind }

func termOf(r int) term {
	if r == 10 {
		return term{0, 256}
	}
	return term{2 + r, 0}
}

func (o *twin) second(i api.Ins) (api.Tag, term) {
	if i.Reg {
		return o.tagOf(i.Src), termOf(i.Src)
	}
	return api.Tag{Kind: api.KindNum}, term{0, i.Imm}
}

func whole(n int) *big.Int { return big.NewInt(int64(n)) }

func sum(l ...*big.Int) *big.Int {
	s := new(big.Int)
	for _, n := range l {
		s.Add(s, n)
	}
	return s
}

func less(a, b *big.Int) *big.Int { return new(big.Int).Sub(a, b) }

func power(k uint) *big.Int { return new(big.Int).Lsh(whole(1), k) }

func atMost(a, b *big.Int) bool { return a.Cmp(b) <= 0 }

// isFrom: a number is from the one to the other one.
func isFrom(n, from, to *big.Int) bool { return atMost(from, n) && atMost(n, to) }

// ints: it is from -2^63 to 2^63 - 1.
func ints(n *big.Int) bool { return n.IsInt64() }

func in32(n *big.Int) bool { return isFrom(n, whole(0), less(power(32), whole(1))) }

// around: it is one of size bits, with a sign.
func around(n *big.Int, size int) bool {
	return isFrom(n, less(whole(0), power(uint(size-1))), less(power(uint(size-1)), whole(1)))
}

// isKind tells of pointers' kinds.
func isPointer(k int) bool {
	return k == api.KindStack || k == api.KindCtx || k == api.KindData || k == api.KindRow
}

// rangeOf is R of a term: an end that is there, or nil.
func (o *twin) rangeOf(x term) (lo, hi *big.Int) {
	s := o.s.Span(x.v)
	if !s.NoLo {
		lo = sum(whole(s.Lo), whole(x.k))
		if lo.Cmp(whole(most)) > 0 || lo.Cmp(whole(-most)) < 0 {
			lo = nil
		}
	}
	if !s.NoHi {
		hi = sum(whole(s.Hi), whole(x.k))
		if hi.Cmp(whole(most)) > 0 {
			hi = nil
		} else if hi.Cmp(whole(-most)) < 0 {
			hi = whole(-most)
		}
	}
	return lo, hi
}

// spanOf is R as a span.
func (o *twin) spanOf(x term) api.Span {
	lo, hi := o.rangeOf(x)
	s := api.Span{NoLo: lo == nil, NoHi: hi == nil}
	if lo != nil {
		s.Lo = int(lo.Int64())
	}
	if hi != nil {
		s.Hi = int(hi.Int64())
	}
	return s
}

// ends are lo and hi, those of all numbers where there are none.
func (o *twin) ends(x term) (lo, hi *big.Int) {
	lo, hi = o.rangeOf(x)
	if lo == nil {
		lo = less(whole(0), power(63))
	}
	if hi == nil {
		hi = less(power(63), whole(1))
	}
	return lo, hi
}

func (o *twin) set(v int, t api.Tag, y term) {
	o.tag[v] = t
	o.assign(v, y.v, y.k)
}

func (o *twin) free(v int, t api.Tag) {
	o.tag[v] = t
	o.z = o.z.Forget(v)
}

func (o *twin) freeIn(v int, s api.Span) {
	o.free(v, api.Tag{Kind: api.KindNum})
	if !s.NoHi {
		o.with(v, 0, s.Hi)
	}
	if !s.NoLo {
		o.with(0, v, -s.Lo)
	}
}

func (o *twin) assign(v, y, c int) {
	z, e := o.z.Assign(v, y, c)
	if e != api.OK {
		panic("Assign")
	}
	o.z = z
}

func (o *twin) with(i, j, c int) {
	z, e := o.z.With(api.Con{I: i, J: j, C: c})
	if e != api.OK {
		panic("With")
	}
	o.z = z
}

// bound is a bound ahead, or nil.
func (o *twin) bound(i, j int) *big.Int {
	if b := o.s.Bound(i, j); b.Is {
		return whole(b.C)
	}
	return nil
}

func negative(n *big.Int) *big.Int {
	if n == nil {
		return nil
	}
	return new(big.Int).Neg(n)
}

// added is chapter 5's sum of bounds, which may be nil.
func added(a, b *big.Int) *big.Int {
	if a == nil || b == nil {
		return nil
	}
	s := sum(a, b)
	if s.Cmp(whole(most)) > 0 {
		return nil
	}
	if s.Cmp(whole(-most)) < 0 {
		return whole(-most)
	}
	return s
}

func lesser(a, b *big.Int) *big.Int {
	if a == nil || b != nil && b.Cmp(a) < 0 {
		return b
	}
	return a
}

func asBound(n *big.Int) api.Bound {
	if n == nil {
		return api.Bound{}
	}
	return api.Bound{Is: true, C: int(n.Int64())}
}

// renewSum and renewDifference: the register's variable vx becomes its sum, its difference, with the one of vy.
func (o *twin) renewSum(vx, vy int) {
	lox, hix := o.rangeOf(term{vx, 0})
	loy, hiy := o.rangeOf(term{vy, 0})
	var up, down []api.Bound
	for q := range vars {
		up = append(up, asBound(lesser(added(o.bound(vx, q), hiy), added(o.bound(vy, q), hix))))
		down = append(down, asBound(lesser(added(o.bound(q, vx), negative(loy)), added(o.bound(q, vy), negative(lox)))))
	}
	o.put(vx, up, down)
}

func (o *twin) renewDifference(vx, vy int) {
	loy, hiy := o.rangeOf(term{vy, 0})
	var up, down []api.Bound
	for q := range vars {
		u, d := added(o.bound(vx, q), negative(loy)), added(o.bound(q, vx), hiy)
		if q == 0 {
			u, d = lesser(u, o.bound(vx, vy)), lesser(d, o.bound(vy, vx))
		}
		up, down = append(up, asBound(u)), append(down, asBound(d))
	}
	o.put(vx, up, down)
}

func (o *twin) put(v int, up, down []api.Bound) {
	z, e := o.z.Put(v, up, down)
	if e != api.OK {
		panic("Put")
	}
	o.z = z
}

// offInRange: TrapOff, unless off is in range. Where no assignment is left it is not asked.
func (o *twin) offInRange(v int) {
	if o.z.Empty() {
		return
	}
	up, down := o.z.Bound(v, 0), o.z.Bound(0, v)
	is := func(b api.Bound, c int) bool { return b.Is && c >= -api.MaxOff && c <= api.MaxOff }
	o.refuseUnless(is(up, up.C) && is(down, -down.C), api.TrapOff)
}

// P10.3.

func (o *twin) wide(i api.Ins) {
	switch {
	case i.Op == api.OpMov:
		t, y := o.second(i)
		o.refuseUnless(t.Kind != api.KindNone, api.TrapKind)
		if t.Kind == api.KindMaybe {
			o.free(2+i.Dst, t)
		} else if !i.Reg || i.Src != i.Dst {
			o.set(2+i.Dst, t, y)
		}
	case (i.Op == api.OpAdd || i.Op == api.OpSub) && !i.Reg:
		o.wideNumber(i)
	case i.Op == api.OpAdd:
		o.wideAdd(i)
	case i.Op == api.OpSub:
		o.wideSub(i)
	default:
		o.wideOther(i)
	}
}

func (o *twin) wideNumber(i api.Ins) {
	v, c := 2+i.Dst, i.Imm
	if i.Op == api.OpSub {
		c = -i.Imm
	}
	lo, hi := o.rangeOf(term{v, 0})
	k := o.kindOf(i.Dst)
	o.refuseUnless(k != api.KindNone && k != api.KindMaybe, api.TrapKind)
	if k == api.KindNum {
		if c > 0 && hi == nil || c < 0 && lo == nil {
			o.free(v, api.Tag{Kind: api.KindNum})
			return
		}
	} else {
		o.refuseUnless(lo != nil && hi != nil, api.TrapOff)
		o.refuseUnless(atMost(whole(-api.MaxOff), sum(lo, whole(c))) && atMost(sum(hi, whole(c)), whole(api.MaxOff)), api.TrapOff)
	}
	o.assign(v, v, c)
}

func (o *twin) wideAdd(i api.Ins) {
	v, w := 2+i.Dst, 2+i.Src
	kd, ky := o.kindOf(i.Dst), o.kindOf(i.Src)
	if kd == api.KindNum && ky == api.KindNum {
		lox, hix := o.ends(termOf(i.Dst))
		loy, hiy := o.ends(termOf(i.Src))
		if ints(sum(lox, loy)) && ints(sum(hix, hiy)) {
			o.renewSum(v, w)
		} else {
			o.free(v, api.Tag{Kind: api.KindNum})
		}
		return
	}
	o.refuseUnless(isPointer(kd) && ky == api.KindNum || kd == api.KindNum && isPointer(ky), api.TrapKind)
	if i.Src == 10 {
		o.assign(v, v, 256)
	} else {
		o.renewSum(v, w)
	}
	if kd == api.KindNum {
		o.tag[v] = o.tagOf(i.Src)
	}
	o.offInRange(v)
}

func (o *twin) wideSub(i api.Ins) {
	v, w := 2+i.Dst, 2+i.Src
	kd, ky := o.kindOf(i.Dst), o.kindOf(i.Src)
	num := api.Tag{Kind: api.KindNum}
	if kd == api.KindNum && ky == api.KindNum {
		if i.Src == i.Dst {
			o.set(v, num, term{0, 0})
			return
		}
		lox, hix := o.ends(termOf(i.Dst))
		loy, hiy := o.ends(termOf(i.Src))
		if ints(less(lox, hiy)) && ints(less(hix, loy)) {
			o.renewDifference(v, w)
		} else {
			o.free(v, num)
		}
		return
	}
	if isPointer(kd) && ky == api.KindNum {
		o.renewDifference(v, w)
		o.offInRange(v)
		return
	}
	o.refuseUnless(kd == ky && (kd == api.KindStack || kd == api.KindCtx || kd == api.KindData), api.TrapKind)
	o.tag[v] = num
	switch i.Src {
	case i.Dst:
		o.assign(v, 0, 0)
	case 10:
		o.assign(v, v, -256)
	default:
		o.renewDifference(v, w)
	}
}

// numbersAlone: TrapKind, if a kind that is read is not KindNum; then TrapDiv.
func (o *twin) numbersAlone(i api.Ins) {
	if i.Op != api.OpMov && i.Op != api.OpMovs {
		o.refuseUnless(o.kindOf(i.Dst) == api.KindNum, api.TrapKind)
	}
	if i.Reg {
		o.refuseUnless(o.kindOf(i.Src) == api.KindNum, api.TrapKind)
	}
	switch i.Op {
	case api.OpDiv, api.OpMod, api.OpSdiv, api.OpSmod:
		if i.Reg {
			o.refuseUnless(span.NotZero(i.Narrow, o.spanOf(termOf(i.Src))), api.TrapDiv)
		}
	}
}

func (o *twin) wideOther(i api.Ins) {
	o.numbersAlone(i)
	v := 2 + i.Dst
	num := api.Tag{Kind: api.KindNum}
	_, y := o.second(i)
	rx, ry := o.spanOf(termOf(i.Dst)), o.spanOf(y)
	loy, hiy := o.ends(y)
	switch i.Op {
	case api.OpMovs:
		if around(loy, i.Size) && around(hiy, i.Size) {
			o.set(v, num, y)
		} else {
			o.freeIn(v, span.Extend(i.Size, false, ry))
		}
	case api.OpLe:
		if i.Size != 64 {
			o.freeIn(v, span.Swap(i.Size, false, rx))
		}
	case api.OpBe, api.OpBswap:
		o.freeIn(v, span.Swap(i.Size, true, rx))
	case api.OpNeg:
		o.freeIn(v, span.Alu(i.Op, false, rx, rx))
	default:
		o.freeIn(v, span.Alu(i.Op, false, rx, ry))
		if i.Op == api.OpMod && i.Reg && i.Src != i.Dst && atMost(whole(1), loy) {
			o.with(v, y.v, -1)
		}
	}
}

// P10.4.

func (o *twin) narrow(i api.Ins) {
	o.numbersAlone(i)
	v := 2 + i.Dst
	num := api.Tag{Kind: api.KindNum}
	x := termOf(i.Dst)
	_, y := o.second(i)
	lox, hix := o.ends(x)
	loy, hiy := o.ends(y)
	smallX, smallY := in32(lox) && in32(hix), in32(loy) && in32(hiy)
	sums := i.Op == api.OpAdd || i.Op == api.OpSub
	switch {
	case i.Op == api.OpMov && i.Reg && smallY:
		o.set(v, num, y)
		return
	case i.Op == api.OpMov && !i.Reg:
		o.set(v, num, term{0, int(uint32(i.Imm))})
		return
	case i.Op == api.OpMovs && atMost(whole(0), loy) && atMost(hiy, less(power(uint(i.Size-1)), whole(1))):
		o.set(v, num, y)
		return
	case i.Op == api.OpSub && i.Reg && i.Src == i.Dst:
		o.set(v, num, term{0, 0})
		return
	case sums && !i.Reg && smallX:
		c := i.Imm
		if i.Op == api.OpSub {
			c = -i.Imm
		}
		if in32(sum(lox, whole(c))) && in32(sum(hix, whole(c))) {
			o.assign(v, v, c)
			return
		}
	case i.Op == api.OpAdd && i.Reg && smallX && smallY && in32(sum(lox, loy)) && in32(sum(hix, hiy)):
		o.renewSum(v, y.v)
		return
	case i.Op == api.OpSub && i.Reg && smallX && smallY && in32(less(lox, hiy)) && in32(less(hix, loy)):
		o.renewDifference(v, y.v)
		return
	}
	if i.Op == api.OpMovs {
		o.freeIn(v, span.Extend(i.Size, true, o.spanOf(y)))
	} else {
		o.freeIn(v, span.Alu(i.Op, true, o.spanOf(x), o.spanOf(y)))
	}
}

// P10.5.

func (o *twin) constants(i api.Ins) {
	v := 2 + i.Dst
	num := api.Tag{Kind: api.KindNum}
	switch {
	case i.Op == api.OpExit:
		o.refuseUnless(o.kindOf(0) == api.KindNum, api.TrapLeak)
	case i.Op == api.OpData:
		o.set(v, api.Tag{Kind: api.KindData}, term{0, i.Imm})
	case i.Imm >= -most && i.Imm <= most:
		o.set(v, num, term{0, i.Imm})
	case i.Imm > most:
		o.free(v, num)
		o.with(0, v, -most)
	default:
		o.free(v, num)
		o.with(v, 0, -most)
	}
}

// P10.6.

// place is TrapKind, or a place: its tag and its term.
func (o *twin) place(r, off int) (api.Tag, term) {
	t := o.tagOf(r)
	o.refuseUnless(isPointer(t.Kind), api.TrapKind)
	o.refuseUnless(t.Kind != api.KindRow || t.Table < len(o.p.Tables), api.TrapKind)
	x := termOf(r)
	return t, term{x.v, x.k + off}
}

// room is the number of bytes of a region.
func (o *twin) room(t api.Tag) *big.Int {
	switch t.Kind {
	case api.KindData:
		return whole(len(o.p.Data))
	case api.KindRow:
		return whole(o.p.Tables[t.Table].Wide)
	}
	return whole(256)
}

func (o *twin) within(tag api.Tag, t term, n int) bool {
	lo, hi := o.rangeOf(t)
	if lo == nil || lo.Sign() < 0 {
		return false
	}
	if tag.Kind == api.KindCtx {
		m := o.bound(t.v, 1)
		return m != nil && sum(m, whole(t.k), whole(n)).Sign() <= 0
	}
	return hi != nil && atMost(sum(hi, whole(n)), o.room(tag))
}

// bytesOf are the bytes of the stack from one to another one: of each slot that has some, their mask.
func bytesOf(from, to *big.Int) map[int]int {
	slots := map[int]int{}
	for x := 0; x < 256; x++ {
		if isFrom(whole(x), from, to) {
			slots[x/8] |= 1 << (x % 8)
		}
	}
	return slots
}

// touched are the bytes that may be touched at a place; fixed: at one alone.
func (o *twin) touched(t term, n int) (slots map[int]int, fixed, whole8 bool) {
	lo, hi := o.rangeOf(t)
	fixed = lo.Cmp(hi) == 0
	whole8 = fixed && n == 8 && lo.Int64()%8 == 0
	return bytesOf(lo, sum(hi, whole(n-1))), fixed, whole8
}

func writtenBytes(t api.Tag) int {
	switch t.Kind {
	case api.KindNum:
		return 255
	case api.KindNone:
		return t.Mask
	}
	return 0
}

// readable: TrapKind, then TrapInit.
func (o *twin) readable(slots map[int]int) {
	for n := range slots {
		k := o.s.Tag(12 + n).Kind
		o.refuseUnless(!isPointer(k) && k != api.KindMaybe, api.TrapKind)
	}
	for n, m := range slots {
		o.refuseUnless(writtenBytes(o.s.Tag(12+n))&m == m, api.TrapInit)
	}
}

// blur frees slots to KindNone; sure: the bytes are written then.
func (o *twin) blur(slots map[int]int, sure bool) {
	for n, m := range slots {
		now := writtenBytes(o.s.Tag(12 + n))
		if sure {
			now |= m
		}
		o.free(12+n, api.Tag{Mask: now})
	}
}

func (o *twin) load(i api.Ins) {
	tag, t := o.place(i.Src, i.Off)
	o.refuseUnless(o.within(tag, t, i.Size), api.TrapBounds)
	v := 2 + i.Dst
	if tag.Kind == api.KindStack {
		slots, _, whole8 := o.touched(t, i.Size)
		if i.Op == api.OpLoad && whole8 {
			for n := range slots {
				switch s := o.s.Tag(12 + n); {
				case s.Kind == api.KindNum || isPointer(s.Kind):
					o.set(v, s, term{12 + n, 0})
				case s.Kind == api.KindMaybe:
					o.free(v, s)
				default:
					o.refuseUnless(s.Mask == 255, api.TrapInit)
					o.free(v, api.Tag{Kind: api.KindNum})
				}
			}
			return
		}
		o.readable(slots)
	}
	o.freeIn(v, span.Bytes(i.Size, i.Op == api.OpLoads))
}

func (o *twin) store(i api.Ins) {
	tag, t := o.place(i.Dst, i.Off)
	y, term := o.second(i)
	o.refuseUnless(y.Kind != api.KindNone, api.TrapKind)
	o.refuseUnless(tag.Kind != api.KindData, api.TrapWrite)
	o.refuseUnless(o.within(tag, t, i.Size), api.TrapBounds)
	if tag.Kind != api.KindStack {
		o.refuseUnless(y.Kind == api.KindNum, api.TrapLeak)
		return
	}
	slots, fixed, whole8 := o.touched(t, i.Size)
	if !whole8 {
		o.refuseUnless(y.Kind == api.KindNum, api.TrapLeak)
		o.blur(slots, fixed)
		return
	}
	for n := range slots {
		if y.Kind == api.KindMaybe {
			o.free(12+n, y)
		} else {
			o.set(12+n, y, term)
		}
	}
}

func (o *twin) atom(i api.Ins) {
	tag, t := o.place(i.Dst, i.Off)
	o.refuseUnless(o.kindOf(i.Src) == api.KindNum, api.TrapKind)
	o.refuseUnless(i.Imm != api.AtomCmpx || o.kindOf(0) == api.KindNum, api.TrapKind)
	o.refuseUnless(tag.Kind != api.KindData, api.TrapWrite)
	o.refuseUnless(o.within(tag, t, i.Size), api.TrapBounds)
	if tag.Kind == api.KindStack {
		slots, _, _ := o.touched(t, i.Size)
		o.readable(slots)
		o.blur(slots, false)
	}
	switch i.Imm {
	case api.AtomCmpx:
		o.freeIn(2, span.Bytes(i.Size, false))
	case api.AtomAdd + api.AtomFetch, api.AtomOr + api.AtomFetch, api.AtomAnd + api.AtomFetch, api.AtomXor + api.AtomFetch, api.AtomXchg:
		o.freeIn(2+i.Src, span.Bytes(i.Size, false))
	}
}

// P10.7.

func (o *twin) call(i api.Ins) {
	sig, is := help.Sig(i.Imm)
	o.refuseUnless(is, api.TrapCall)
	length := func(r int) int {
		for sig.Args[r-1] != api.ArgLen {
			r++
		}
		return r
	}
	for r := 1; r <= 5; r++ {
		switch arg := sig.Args[r-1]; arg {
		case api.ArgNum, api.ArgLen:
			o.refuseUnless(o.kindOf(r) == api.KindNum, api.TrapCall)
		case api.ArgRead, api.ArgWrite:
			o.lent(r, length(r), arg)
		}
	}
	if i.Imm == api.HelpRow {
		lo, hi := o.rangeOf(termOf(1))
		o.refuseUnless(lo != nil && hi != nil && lo.Cmp(hi) == 0 && lo.Sign() >= 0 && lo.Cmp(whole(len(o.p.Tables))) < 0, api.TrapCall)
	}
	for r := 1; r <= 5; r++ {
		if sig.Args[r-1] == api.ArgWrite && o.kindOf(r) == api.KindStack {
			lop, hip := o.rangeOf(termOf(r))
			lon, hin := o.rangeOf(termOf(length(r)))
			o.blur(bytesOf(lop, less(sum(hip, hin), whole(1))), lop.Cmp(hip) == 0 && lon.Cmp(hin) == 0)
		}
	}
	o.answer(i.Imm, sig)
	for r := 1; r <= 5; r++ {
		o.free(2+r, api.Tag{})
	}
}

// lent: TrapCall, unless the piece of the register r may be lent, whose length is in the register n.
func (o *twin) lent(r, n, arg int) {
	tag := o.tagOf(r)
	o.refuseUnless(isPointer(tag.Kind), api.TrapCall)
	o.refuseUnless(tag.Kind != api.KindRow || tag.Table < len(o.p.Tables), api.TrapCall)
	o.refuseUnless(arg != api.ArgWrite || tag.Kind != api.KindData, api.TrapCall)
	lon, hin := o.rangeOf(termOf(n))
	lop, hip := o.rangeOf(termOf(r))
	o.refuseUnless(lon != nil && lon.Sign() >= 0, api.TrapCall)
	o.refuseUnless(hin != nil && atMost(hin, whole(65535)), api.TrapCall)
	o.refuseUnless(lop != nil && lop.Sign() >= 0, api.TrapCall)
	if tag.Kind == api.KindCtx {
		m := lesser(added(o.bound(2+r, 1), hin), added(o.bound(2+n, 1), hip))
		o.refuseUnless(m != nil && m.Sign() <= 0, api.TrapCall)
		return
	}
	o.refuseUnless(hip != nil && atMost(sum(hip, hin), o.room(tag)), api.TrapCall)
	if arg == api.ArgRead && tag.Kind == api.KindStack {
		for n, m := range bytesOf(lop, less(sum(hip, hin), whole(1))) {
			o.refuseUnless(writtenBytes(o.s.Tag(12+n))&m == m, api.TrapCall)
		}
	}
}

func (o *twin) answer(id int, sig api.Sig) {
	switch id {
	case api.HelpFind:
		_, hin := o.rangeOf(termOf(2))
		o.freeIn(2, api.Span{Lo: -1, Hi: int(hin.Int64()) - 1})
		o.with(2, 4, -1)
	case api.HelpRow:
		table, _ := o.rangeOf(termOf(1))
		lo, hi := o.ends(termOf(2))
		n := int(table.Int64())
		if lo.Sign() >= 0 && hi.Cmp(whole(o.p.Tables[n].Rows)) < 0 {
			o.set(2, api.Tag{Kind: api.KindRow, Table: n}, term{0, 0})
		} else {
			o.free(2, api.Tag{Kind: api.KindMaybe, Table: n})
		}
	default:
		o.freeIn(2, sig.Ret)
	}
}

// P10.8.

func (o *twin) empty() { o.with(0, 0, -1) }

func (o *twin) take(i api.Ins, taken bool) {
	if i.Op == api.OpJa {
		if !taken {
			o.empty()
		}
		return
	}
	a, x := o.tagOf(i.Dst), termOf(i.Dst)
	b, y := o.second(i)
	fixed := a.Kind == api.KindStack || a.Kind == api.KindCtx || a.Kind == api.KindData
	equality := i.Op == api.OpJeq || i.Op == api.OpJne
	o.refuseUnless(a.Kind != api.KindNone && b.Kind != api.KindNone, api.TrapKind)
	switch {
	case a.Kind == api.KindNum && b.Kind == api.KindNum:
		if i.Narrow {
			o.refineNarrow(i, x, y, taken)
		} else {
			o.refine(i.Op, x, y, taken)
		}
	case fixed && a.Kind == b.Kind && !i.Narrow && i.Op != api.OpJset:
		o.refine(withSign(i.Op), x, y, taken)
	case (a.Kind == api.KindRow || a.Kind == api.KindMaybe) && !i.Reg && i.Imm == 0 && !i.Narrow && equality:
		isZero := (i.Op == api.OpJeq) == taken
		switch {
		case isZero && a.Kind == api.KindRow:
			o.empty()
		case isZero:
			o.set(x.v, api.Tag{Kind: api.KindNum}, term{0, 0})
		case a.Kind == api.KindMaybe:
			o.set(x.v, api.Tag{Kind: api.KindRow, Table: a.Table}, term{0, 0})
		}
	default:
		panic(api.TrapKind)
	}
}

func withSign(op int) int {
	return map[int]int{api.OpJgt: api.OpJsgt, api.OpJge: api.OpJsge, api.OpJlt: api.OpJslt, api.OpJle: api.OpJsle, api.OpJeq: api.OpJeq, api.OpJne: api.OpJne, api.OpJsgt: api.OpJsgt, api.OpJsge: api.OpJsge, api.OpJslt: api.OpJslt, api.OpJsle: api.OpJsle}[op]
}

// P10.9.

func (o *twin) refineNarrow(i api.Ins, x, y term, taken bool) {
	all := func(y term, is func(n *big.Int) bool) bool {
		lox, hix := o.rangeOf(x)
		loy, hiy := o.rangeOf(y)
		return lox != nil && hix != nil && loy != nil && hiy != nil && is(lox) && is(hix) && is(loy) && is(hiy)
	}
	signed := func(n *big.Int) bool { return around(n, 32) }
	switch i.Op {
	case api.OpJset:
	case api.OpJsgt, api.OpJsge, api.OpJslt, api.OpJsle:
		if all(y, signed) {
			o.refine(i.Op, x, y, taken)
		}
	default:
		low := y
		if !i.Reg {
			low.k = int(uint32(i.Imm))
		}
		if all(low, in32) {
			o.refine(withSign(i.Op), x, low, taken)
		} else if (i.Op == api.OpJeq || i.Op == api.OpJne) && all(y, signed) {
			o.refine(i.Op, x, y, taken)
		}
	}
}

// isBelow: x <= y + e.
func (o *twin) isBelow(x, y term, e int) {
	if x.v != y.v {
		o.with(x.v, y.v, e+y.k-x.k)
	} else if x.k-y.k > e {
		o.empty()
	}
}

func (o *twin) refine(op int, x, y term, taken bool) {
	if !taken {
		other := map[int]int{api.OpJeq: api.OpJne, api.OpJgt: api.OpJle, api.OpJge: api.OpJlt, api.OpJsgt: api.OpJsle, api.OpJsge: api.OpJslt}
		for a, b := range other {
			if op == a {
				o.refine(b, x, y, true)
			} else if op == b {
				o.refine(a, x, y, true)
			}
		}
		return
	}
	switch op {
	case api.OpJeq:
		o.isBelow(x, y, 0)
		o.isBelow(y, x, 0)
	case api.OpJne:
		o.unlike(x, y)
	case api.OpJslt:
		o.isBelow(x, y, -1)
	case api.OpJsle:
		o.isBelow(x, y, 0)
	case api.OpJsgt:
		o.isBelow(y, x, -1)
	case api.OpJsge:
		o.isBelow(y, x, 0)
	case api.OpJlt:
		o.natural(x, y, -1)
	case api.OpJle:
		o.natural(x, y, 0)
	case api.OpJgt:
		o.natural(y, x, -1)
	case api.OpJge:
		o.natural(y, x, 0)
	}
}

func (o *twin) unlike(x, y term) {
	if x.v == y.v {
		if x.k == y.k {
			o.empty()
		}
		return
	}
	first, second := o.bound(y.v, x.v), o.bound(x.v, y.v)
	if first != nil && atMost(first, whole(x.k-y.k)) {
		o.isBelow(y, x, -1)
	}
	if second != nil && atMost(second, whole(y.k-x.k)) {
		o.isBelow(x, y, -1)
	}
}

func (o *twin) natural(x, y term, e int) {
	loy, hiy := o.rangeOf(y)
	_, hix := o.rangeOf(x)
	switch {
	case loy != nil && loy.Sign() >= 0:
		o.isBelow(term{0, 0}, x, 0)
		o.isBelow(x, y, e)
	case hix != nil && hiy != nil && hix.Sign() < 0 && hiy.Sign() < 0:
		o.isBelow(x, y, e)
	}
}
