package mach_test

import (
	"math/big"
	"slices"

	"warrant/api"
	"warrant/code"
	"warrant/help"
)

// DOC.md's words once more, by other means than the package has: bytes of the stack stand one by one, arithmetic is that of whole numbers of any size, and a step makes a new state or none. What the package answers is held against these.

// cell is a byte of the stack: not written, written, or a part of a pointer.
type cell struct {
	written bool
	b       byte
	ptr     api.Value
}

// twin is a state of the plain machine.
type twin struct {
	p      api.Program
	units  []int // where each instruction begins, and where behind them
	regs   [11]api.Value
	stack  [256]cell
	ctx    []byte
	tables [][]byte
	sent   []int
	at     int
	steps  int
	done   bool
}

// made tells whether a program is well made.
func made(p api.Program) bool {
	if p.Lo < 0 || p.Hi < p.Lo || 65535 < p.Hi || 4096 < len(p.Data) || 8 < len(p.Tables) {
		return false
	}
	for _, t := range p.Tables {
		if t.Rows < 1 || 64 < t.Rows || t.Wide < 1 || 64 < t.Wide {
			return false
		}
	}
	if _, e := code.Check(p.Code); e != api.OK || len(p.Code) == 0 {
		return false
	}
	for _, i := range p.Code {
		if i.Op == api.OpData && len(p.Data) < i.Imm {
			return false
		}
	}
	return true
}

// fitting tells whether an input fits a program.
func fitting(p api.Program, in api.Input) bool {
	is := p.Lo <= len(in.Ctx) && len(in.Ctx) <= p.Hi && len(in.Tables) == len(p.Tables)
	for n := 0; is && n < len(p.Tables); n++ {
		is = len(in.Tables[n]) == p.Tables[n].Rows*p.Tables[n].Wide
	}
	return is
}

// begin is P8.1, and DOC.md's 'A run'.
func begin(p api.Program, in api.Input) (twin, api.Errno) {
	if !made(p) {
		return twin{}, api.ErrArg
	}
	if !fitting(p, in) {
		return twin{}, api.ErrInput
	}
	p.Code, p.Data, p.Tables = slices.Clone(p.Code), slices.Clone(p.Data), slices.Clone(p.Tables)
	o := twin{p: p, units: []int{0}, ctx: slices.Clone(in.Ctx), tables: deep(in.Tables)}
	for k, i := range p.Code {
		size := 1
		if i.Op == api.OpWide || i.Op == api.OpData {
			size = 2
		}
		o.units = append(o.units, o.units[k]+size)
	}
	o.regs[1], o.regs[2], o.regs[10] = ctx(0), num(len(in.Ctx)), stack(256)
	return o, api.OK
}

func deep(l [][]byte) [][]byte {
	var m [][]byte
	for _, b := range l {
		m = append(m, slices.Clone(b))
	}
	return m
}

func num(x int) api.Value   { return api.Value{Kind: api.KindNum, X: x} }
func stack(x int) api.Value { return api.Value{Kind: api.KindStack, X: x} }
func ctx(x int) api.Value   { return api.Value{Kind: api.KindCtx, X: x} }
func data(x int) api.Value  { return api.Value{Kind: api.KindData, X: x} }
func row(table, row, x int) api.Value {
	return api.Value{Kind: api.KindRow, Table: table, Row: row, X: x}
}

// state is P8.3.
func (o twin) state() api.State {
	s := api.State{Regs: o.regs, Ctx: o.ctx, Tables: o.tables, Sent: o.sent, At: o.at, Steps: o.steps, Done: o.done}
	for x, c := range o.stack {
		slot := &s.Stack[x/8]
		slot.Ptr = c.ptr
		if c.written {
			slot.Bytes[x%8] = c.b
			slot.Mask += 1 << (x % 8)
		}
	}
	return s
}

// output is what P8.4 tells of a run that has ended.
func (o twin) output() api.Output {
	return api.Output{R0: o.regs[0].X, Ctx: o.ctx, Tables: o.tables, Sent: o.sent}
}

// step is P8.2: the state behind, or the same one and the trap.
func (o twin) step() (twin, api.Errno) {
	if o.done {
		return o, api.ErrDone
	}
	i, n := o.p.Code[o.at], o
	goes, e := n.do(i)
	if e != api.OK {
		return o, e
	}
	n.steps++
	if i.Op == api.OpExit {
		n.done = true
		return n, api.OK
	}
	n.at = slices.Index(n.units, n.units[o.at+1]+goes)
	if n.at < 0 || n.at == len(n.p.Code) {
		return o, api.TrapJump
	}
	return n, api.OK
}

// do does an instruction; it tells how many units further the run goes than right behind it.
func (o *twin) do(i api.Ins) (int, api.Errno) {
	b := num(i.Imm)
	if i.Reg {
		b = o.regs[i.Src]
	}
	switch i.Op {
	case api.OpWide:
		o.regs[i.Dst] = num(i.Imm)
	case api.OpData:
		o.regs[i.Dst] = data(i.Imm)
	case api.OpLoad, api.OpLoads:
		return 0, o.load(i)
	case api.OpStore:
		return 0, o.store(i, b)
	case api.OpAtom:
		return 0, o.atom(i)
	case api.OpJa:
		if i.Narrow {
			return i.Imm, api.OK
		}
		return i.Off, api.OK
	case api.OpCall:
		return 0, o.call(i.Imm)
	case api.OpExit:
		if o.regs[0].Kind != api.KindNum {
			return 0, api.TrapLeak
		}
	default:
		if i.Op < api.OpJa {
			v, e := reckon(i, o.regs[i.Dst], b)
			if e == api.OK {
				o.regs[i.Dst] = v
			}
			return 0, e
		}
		taken, e := jumps(i, o.regs[i.Dst], b)
		if taken {
			return i.Off, e
		}
		return 0, e
	}
	return 0, api.OK
}

func points(v api.Value) bool {
	return v.Kind == api.KindStack || v.Kind == api.KindCtx || v.Kind == api.KindData || v.Kind == api.KindRow
}

func alone(kind int) bool {
	return kind == api.KindStack || kind == api.KindCtx || kind == api.KindData
}

// reckon is DOC.md's 'Arithmetic' of both widths.
func reckon(i api.Ins, a, b api.Value) (api.Value, api.Errno) {
	reads := []api.Value{a, b}
	switch i.Op {
	case api.OpMov, api.OpMovs:
		reads = reads[1:]
	case api.OpNeg, api.OpLe, api.OpBe, api.OpBswap:
		reads = reads[:1]
	}
	numbers := true
	for _, v := range reads {
		if v.Kind == api.KindNone {
			return v, api.TrapKind
		}
		numbers = numbers && v.Kind == api.KindNum
	}
	if numbers {
		return reckonNumbers(i, big.NewInt(int64(a.X)), big.NewInt(int64(b.X)))
	}
	if i.Narrow {
		return a, api.TrapKind
	}
	x, y := big.NewInt(int64(a.X)), big.NewInt(int64(b.X))
	switch {
	case i.Op == api.OpMov:
		return b, api.OK
	case i.Op == api.OpAdd && points(a) && !points(b):
		return aside(a, x.Add(x, y))
	case i.Op == api.OpAdd && points(b) && !points(a):
		return aside(b, x.Add(x, y))
	case i.Op == api.OpSub && points(a) && !points(b):
		return aside(a, x.Sub(x, y))
	case i.Op == api.OpSub && a.Kind == b.Kind && alone(a.Kind):
		return num(a.X - b.X), api.OK
	}
	return a, api.TrapKind
}

// aside is a pointer with another offset.
func aside(p api.Value, x *big.Int) (api.Value, api.Errno) {
	if x.CmpAbs(big.NewInt(1<<20)) > 0 {
		return p, api.TrapOff
	}
	p.X = int(x.Int64())
	return p, api.OK
}

// power is 2^k.
func power(k int) *big.Int { return new(big.Int).Lsh(big.NewInt(1), uint(k)) }

// low are the low k bits of a whole number; signed: with their sign.
func low(x *big.Int, k int) *big.Int { return new(big.Int).Mod(x, power(k)) }

func signed(x *big.Int, k int) *big.Int {
	v := low(x, k)
	if v.Cmp(power(k-1)) >= 0 {
		v.Sub(v, power(k))
	}
	return v
}

// turned are the low k bits with their bytes in the other order.
func turned(x *big.Int, k int) *big.Int {
	v, left := new(big.Int), low(x, k)
	for range k / 8 {
		v.Add(v.Lsh(v, 8), low(left, 8))
		left.Rsh(left, 8)
	}
	return v
}

// reckonNumbers is chapter 1's arithmetic.
func reckonNumbers(i api.Ins, a, b *big.Int) (api.Value, api.Errno) {
	bits := 64
	if i.Narrow {
		bits = 32
	}
	x, y := low(a, bits), low(b, bits)
	sx, sy := signed(a, bits), signed(b, bits)
	shift := uint(low(b, 5+bits/64).Uint64())
	v := new(big.Int)
	switch i.Op {
	case api.OpDiv, api.OpMod, api.OpSdiv, api.OpSmod:
		if y.Sign() == 0 {
			return api.Value{}, api.TrapDiv
		}
	}
	switch i.Op {
	case api.OpAdd:
		v.Add(x, y)
	case api.OpSub:
		v.Sub(x, y)
	case api.OpMul:
		v.Mul(x, y)
	case api.OpDiv:
		v.Quo(x, y)
	case api.OpMod:
		v.Rem(x, y)
	case api.OpSdiv:
		v.Quo(sx, sy)
	case api.OpSmod:
		v.Rem(sx, sy)
	case api.OpOr:
		v.Or(x, y)
	case api.OpAnd:
		v.And(x, y)
	case api.OpXor:
		v.Xor(x, y)
	case api.OpLsh:
		v.Lsh(x, shift)
	case api.OpRsh:
		v.Rsh(x, shift)
	case api.OpArsh:
		v.Rsh(sx, shift)
	case api.OpNeg:
		v.Neg(x)
	case api.OpMov:
		v = y
	case api.OpMovs:
		v = signed(b, i.Size)
	case api.OpLe:
		v = low(a, i.Size)
	case api.OpBe, api.OpBswap:
		v = turned(a, i.Size)
	}
	if i.Narrow {
		return num(int(low(v, 32).Int64())), api.OK
	}
	return num(int(signed(v, 64).Int64())), api.OK
}

// jumps is DOC.md's 'Jumps'.
func jumps(i api.Ins, a, b api.Value) (bool, api.Errno) {
	none, never := api.KindNone, false
	switch {
	case a.Kind == none || b.Kind == none:
		return never, api.TrapKind
	case a.Kind == api.KindNum && b.Kind == api.KindNum:
		bits := 64
		if i.Narrow {
			bits = 32
		}
		x, y := big.NewInt(int64(a.X)), big.NewInt(int64(b.X))
		return holds(i.Op, low(x, bits), low(y, bits), signed(x, bits), signed(y, bits)), api.OK
	case i.Narrow || i.Op == api.OpJset:
		return never, api.TrapKind
	case a.Kind == b.Kind && alone(a.Kind):
		x, y := big.NewInt(int64(a.X)), big.NewInt(int64(b.X))
		return holds(i.Op, x, y, x, y), api.OK
	case a.Kind == api.KindRow && !i.Reg && i.Imm == 0 && i.Op == api.OpJeq:
		return false, api.OK
	case a.Kind == api.KindRow && !i.Reg && i.Imm == 0 && i.Op == api.OpJne:
		return true, api.OK
	}
	return never, api.TrapKind
}

// holds is a condition of two numbers, without and with their signs.
func holds(op int, x, y, sx, sy *big.Int) bool {
	switch op {
	case api.OpJeq:
		return x.Cmp(y) == 0
	case api.OpJne:
		return x.Cmp(y) != 0
	case api.OpJgt:
		return x.Cmp(y) > 0
	case api.OpJge:
		return x.Cmp(y) >= 0
	case api.OpJlt:
		return x.Cmp(y) < 0
	case api.OpJle:
		return x.Cmp(y) <= 0
	case api.OpJsgt:
		return sx.Cmp(sy) > 0
	case api.OpJsge:
		return sx.Cmp(sy) >= 0
	case api.OpJslt:
		return sx.Cmp(sy) < 0
	case api.OpJsle:
		return sx.Cmp(sy) <= 0
	}
	return new(big.Int).And(x, y).Sign() != 0
}

// size is how many bytes a pointer's region has.
func (o *twin) size(v api.Value) int {
	switch v.Kind {
	case api.KindStack:
		return 256
	case api.KindCtx:
		return len(o.ctx)
	case api.KindData:
		return len(o.p.Data)
	}
	return o.p.Tables[v.Table].Wide
}

// lies tells whether n bytes from an offset on lie in the pointer's region.
func (o *twin) lies(v api.Value, x, n int) bool { return x >= 0 && x+n <= o.size(v) }

// peek is a byte of a region.
func (o *twin) peek(v api.Value, x int) cell {
	c := cell{written: true}
	switch v.Kind {
	case api.KindStack:
		return o.stack[x]
	case api.KindCtx:
		c.b = o.ctx[x]
	case api.KindData:
		c.b = o.p.Data[x]
	case api.KindRow:
		c.b = o.tables[v.Table][v.Row*o.p.Tables[v.Table].Wide+x]
	}
	return c
}

// poke writes bytes into a region; lists are made anew, since the state ahead stays.
func (o *twin) poke(v api.Value, x int, l []byte) {
	switch v.Kind {
	case api.KindStack:
		for k := range l {
			o.unpoint((x + k) / 8)
		}
		for k, b := range l {
			o.stack[x+k] = cell{written: true, b: b}
		}
	case api.KindCtx:
		o.ctx = slices.Clone(o.ctx)
		for k, b := range l {
			o.ctx[x+k] = b
		}
	case api.KindRow:
		o.tables = deep(o.tables)
		for k, b := range l {
			o.tables[v.Table][v.Row*o.p.Tables[v.Table].Wide+x+k] = b
		}
	}
}

// unpoint leaves nothing of the pointer in a slot, if there is one.
func (o *twin) unpoint(slot int) {
	for x := 8 * slot; x < 8*slot+8; x++ {
		if points(o.stack[x].ptr) {
			o.stack[x] = cell{}
		}
	}
}

// legible is the trap of bytes that lie in a region and are to be read as numbers.
func (o *twin) legible(v api.Value, x, n int) api.Errno {
	e := api.OK
	for k := range n {
		c := o.peek(v, x+k)
		if points(c.ptr) {
			return api.TrapKind
		}
		if !c.written {
			e = api.TrapInit
		}
	}
	return e
}

func (o *twin) bytes(v api.Value, x, n int) []byte {
	var l []byte
	for k := range n {
		l = append(l, o.peek(v, x+k).b)
	}
	return l
}

// joined is the whole number of bytes, the lowest first.
func joined(l []byte) *big.Int {
	v := new(big.Int)
	for k := len(l) - 1; k >= 0; k-- {
		v.Add(v.Lsh(v, 8), big.NewInt(int64(l[k])))
	}
	return v
}

// apart are the low n bytes of a number, the lowest first.
func apart(v *big.Int, n int) []byte {
	var l []byte
	left := low(v, 64)
	for range n {
		l = append(l, byte(low(left, 8).Uint64()))
		left.Rsh(left, 8)
	}
	return l
}

func (o *twin) load(i api.Ins) api.Errno {
	v := o.regs[i.Src]
	x := v.X + i.Off
	if !points(v) {
		return api.TrapKind
	}
	if !o.lies(v, x, i.Size) {
		return api.TrapBounds
	}
	if i.Op == api.OpLoad && i.Size == 8 && v.Kind == api.KindStack && x%8 == 0 && points(o.stack[x].ptr) {
		o.regs[i.Dst] = o.stack[x].ptr
		return api.OK
	}
	if e := o.legible(v, x, i.Size); e != api.OK {
		return e
	}
	n := joined(o.bytes(v, x, i.Size))
	if i.Op == api.OpLoads {
		n = signed(n, 8*i.Size)
	}
	o.regs[i.Dst] = num(int(signed(n, 64).Int64()))
	return api.OK
}

func (o *twin) store(i api.Ins, b api.Value) api.Errno {
	v := o.regs[i.Dst]
	x := v.X + i.Off
	switch {
	case !points(v):
		return api.TrapKind
	case b.Kind == api.KindNone:
		return api.TrapKind
	case v.Kind == api.KindData:
		return api.TrapWrite
	case !o.lies(v, x, i.Size):
		return api.TrapBounds
	case b.Kind == api.KindNum:
		o.poke(v, x, apart(big.NewInt(int64(b.X)), i.Size))
		return api.OK
	case v.Kind != api.KindStack || i.Size != 8 || x%8 != 0:
		return api.TrapLeak
	}
	for k := range 8 {
		o.stack[x+k] = cell{ptr: b}
	}
	return api.OK
}

func (o *twin) atom(i api.Ins) api.Errno {
	v, src := o.regs[i.Dst], o.regs[i.Src]
	x := v.X + i.Off
	switch {
	case !points(v):
		return api.TrapKind
	case src.Kind != api.KindNum:
		return api.TrapKind
	case i.Imm == api.AtomCmpx && o.regs[0].Kind != api.KindNum:
		return api.TrapKind
	case v.Kind == api.KindData:
		return api.TrapWrite
	case !o.lies(v, x, i.Size):
		return api.TrapBounds
	}
	if e := o.legible(v, x, i.Size); e != api.OK {
		return e
	}
	old, by := joined(o.bytes(v, x, i.Size)), big.NewInt(int64(src.X))
	is := new(big.Int).Set(old)
	was := num(int(signed(old, 64).Int64()))
	switch i.Imm {
	case 0x00, 0x01:
		is.Add(old, by)
	case 0x40, 0x41:
		is.Or(old, by)
	case 0x50, 0x51:
		is.And(old, by)
	case 0xa0, 0xa1:
		is.Xor(old, by)
	case 0xe1:
		is = by
	case 0xf1:
		if low(big.NewInt(int64(o.regs[0].X)), 8*i.Size).Cmp(old) == 0 {
			is = by
		}
		o.regs[0] = was
	}
	switch i.Imm {
	case 0x01, 0x41, 0x51, 0xa1, 0xe1:
		o.regs[i.Src] = was
	}
	o.poke(v, x, apart(is, i.Size))
	return api.OK
}

// call is P7.6. Each helper asks for what the chapter's table says, written out here once more: N a number, L a length, R and W a piece, read or written.
func (o *twin) call(id int) api.Errno {
	args := map[int]string{1: "RLN", 2: "WRL", 3: "WNL", 4: "RRL", 5: "RLN", 6: "N", 7: "NN", 8: "NN"}[id]
	if args == "" {
		return api.TrapCall
	}
	r := o.regs[1:6]
	length := 0
	for k, arg := range args {
		if arg == 'L' {
			length = r[k].X
		}
		if (arg == 'L' || arg == 'N') && r[k].Kind != api.KindNum {
			return api.TrapCall
		}
	}
	if length < 0 || 65535 < length {
		return api.TrapCall
	}
	for k, arg := range args {
		if arg != 'R' && arg != 'W' {
			continue
		}
		if !points(r[k]) || !o.lies(r[k], r[k].X, length) || arg == 'W' && r[k].Kind == api.KindData {
			return api.TrapCall
		}
		if arg == 'R' && o.legible(r[k], r[k].X, length) != api.OK {
			return api.TrapCall
		}
	}
	if id == 7 && (r[0].X < 0 || len(o.tables) <= r[0].X) {
		return api.TrapCall
	}
	answer := o.helped(id, r, length)
	o.regs[0] = answer
	for k := 1; k <= 5; k++ {
		o.regs[k] = api.Value{}
	}
	return api.OK
}

// helped is what a helper does and answers.
func (o *twin) helped(id int, r []api.Value, length int) api.Value {
	piece := func(k int) []byte { return o.bytes(r[k-1], r[k-1].X, length) }
	switch id {
	case 1:
		return num(help.Sum(piece(1), r[2].X))
	case 2:
		o.poke(r[0], r[0].X, piece(2))
	case 3:
		o.poke(r[0], r[0].X, slices.Repeat([]byte{byte(r[1].X & 255)}, length))
	case 4:
		return num(help.Diff(piece(1), piece(2)))
	case 5:
		return num(help.Find(piece(1), r[2].X))
	case 6:
		if len(o.sent) == 64 {
			return num(-1)
		}
		o.sent = append(slices.Clone(o.sent), r[0].X)
	case 7:
		if table := r[0].X; 0 <= r[1].X && r[1].X < o.p.Tables[table].Rows {
			return row(table, r[1].X, 0)
		}
	case 8:
		return num(help.Mix(r[0].X, r[1].X))
	}
	return num(0)
}
