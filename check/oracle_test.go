package check_test

import (
	"maps"
	"slices"
	"testing"

	"warrant/api"
	"warrant/check"
	"warrant/deed"
	"warrant/flow"
	"warrant/jumps"
	"warrant/pack"
	"warrant/shape"
	"warrant/step"
)

// The chapter's words once more, by other means: all faults of all blocks are gathered, and the one that is to be told first is taken; ghosts are set in lists of bounds, and forgotten by passing over them where a bound is asked for.

// twin is a pair by the chapter's words.
type twin struct {
	pair
	blocks []api.Block
	loops  []api.Around
	shapes map[int]*shape.Shape // ahead of instructions that were asked for
}

// reckoned is what the words come to of a pair.
type reckoned struct {
	fault api.Fault
	twin  *twin // where there is no fault
}

// reckon is Check by the chapter's words.
func (c pair) reckon() reckoned {
	if at, e := pack.Check(c.p); e != api.OK {
		return reckoned{fault: api.Fault{Class: api.ErrProgram, Code: e, Ins: at}}
	}
	f, at, e := flow.Make(c.p.Code)
	if e != api.OK {
		return reckoned{fault: api.Fault{Class: api.ErrCFG, Code: e, Ins: at}}
	}
	if at, e := deed.Check(c.p, f, c.d); e != api.OK {
		return reckoned{fault: api.Fault{Class: api.ErrCert, Code: e, Block: at}}
	}
	o := &twin{c, f.Blocks(), f.Loops(), map[int]*shape.Shape{}}
	start, _ := shape.Start(c.p)
	if !lies(start, o.claim(0), nil) {
		return reckoned{fault: api.Fault{Class: api.ErrNotInductive, Edge: -1}}
	}
	if all := o.faults(); len(all) > 0 {
		return reckoned{fault: slices.MinFunc(all, sooner)}
	}
	return reckoned{twin: o}
}

// sooner orders faults: by blocks, instructions ahead of edges, and then by their place.
func sooner(a, b api.Fault) int {
	key := func(f api.Fault) []int {
		if f.Class == api.ErrUnsafe {
			return []int{f.Block, 0, f.Ins}
		}
		return []int{f.Block, 1, f.Edge}
	}
	return slices.Compare(key(a), key(b))
}

// faults are all that there are, wherever they stand.
func (o *twin) faults() []api.Fault {
	var all []api.Fault
	for i, ins := range o.p.Code {
		edges := []bool{true}
		if jumps.Is(ins.Op) && ins.Op != api.OpJa {
			edges = []bool{true, false}
		}
		for _, taken := range edges {
			if _, e := o.over(i, taken); e != api.OK {
				all = append(all, api.Fault{Class: api.ErrUnsafe, Code: e, Block: o.blockOf(i), Ins: i})
			}
		}
	}
	for k, b := range o.blocks {
		for edge, goal := range b.Next {
			if !lies(o.post(k, edge), o.claim(goal), o.gone(goal)) {
				all = append(all, api.Fault{Class: api.ErrNotInductive, Block: k, Edge: edge, Ins: b.To - 1})
			}
		}
	}
	return all
}

// over is the step over an instruction; behind one that traps nothing comes.
func (o *twin) over(i int, taken bool) (*shape.Shape, api.Errno) {
	ins, ahead := o.p.Code[i], o.before(i)
	if ahead.Dead() {
		return ahead, api.OK
	}
	var s *shape.Shape
	var e api.Errno
	if jumps.Is(ins.Op) {
		s, e = step.Take(o.p, ahead, ins, taken)
	} else {
		s, e = step.Do(o.p, ahead, ins)
	}
	if e != api.OK {
		return shape.Dead(), e
	}
	return s, api.OK
}

func (o *twin) blockOf(i int) int {
	return slices.IndexFunc(o.blocks, func(b api.Block) bool { return b.From <= i && i < b.To })
}

func (o *twin) claim(k int) *shape.Shape {
	s, _ := shape.From(o.d.Claims[k])
	return s
}

// before is the shape ahead of an instruction.
func (o *twin) before(i int) *shape.Shape {
	if i < 0 || i >= len(o.p.Code) {
		return shape.Dead()
	}
	if s, is := o.shapes[i]; is {
		return s
	}
	k := o.blockOf(i)
	if o.blocks[k].From == i {
		o.shapes[i] = o.begin(k)
	} else {
		o.shapes[i], _ = o.over(i-1, true)
	}
	return o.shapes[i]
}

// post is the shape on an edge.
func (o *twin) post(k, edge int) *shape.Shape {
	if k < 0 || k >= len(o.blocks) || edge < 0 || edge >= len(o.blocks[k].Next) {
		return shape.Dead()
	}
	s, _ := o.over(o.blocks[k].To-1, edge == 0)
	return s
}

// hasValue tells whether a variable that a loop names has a value in a claim.
func hasValue(c api.Claim, v int) bool {
	valued := []int{api.KindNum, api.KindStack, api.KindCtx, api.KindData, api.KindRow}
	switch {
	case v < r0:
		return true
	case v < slot0:
		return slices.Contains(valued, c.Regs[v-r0].Kind)
	}
	return slices.Contains(valued, c.Stack[v-slot0].Kind)
}

// begin is the shape ahead of a block's first instruction: in a head the ghosts are twins of what the loop names.
func (o *twin) begin(k int) *shape.Shape {
	s := o.claim(k)
	h := slices.IndexFunc(o.loops, func(l api.Around) bool { return l.Head == k })
	if h < 0 || s.Dead() {
		return s
	}
	c := s.Claim()
	m := map[[2]int]int{}
	for _, con := range c.Cons {
		m[[2]int{con.I, con.J}] = con.C
	}
	for n, v := range []int{o.d.Loops[h].A, o.d.Loops[h].B} {
		ghost := 44 + 2*h + n
		maps.DeleteFunc(m, func(p [2]int, _ int) bool { return p[0] == ghost || p[1] == ghost })
		if !hasValue(c, v) {
			continue
		}
		for p, least := range maps.Clone(m) {
			switch v {
			case p[0]:
				m[[2]int{ghost, p[1]}] = least
			case p[1]:
				m[[2]int{p[0], ghost}] = least
			}
		}
		m[[2]int{ghost, v}], m[[2]int{v, ghost}] = 0, 0
	}
	c.Cons = nil
	for p, least := range m {
		c.Cons = append(c.Cons, con(p[0], p[1], least))
	}
	s, e := shape.From(c)
	if e != api.OK {
		panic(e)
	}
	return s
}

// gone are the ghosts that are forgotten on an edge to a block.
func (o *twin) gone(goal int) []int {
	var l []int
	for h, loop := range o.loops {
		if within := slices.Contains(loop.Blocks, goal); !within || goal == loop.Head {
			l = append(l, 44+2*h, 45+2*h)
		}
	}
	return l
}

// lies tells whether a shape, some of whose variables are forgotten, is inside another one.
func lies(s, o *shape.Shape, gone []int) bool {
	if s.Dead() || o.Dead() {
		return s.Dead()
	}
	for v := r0; v <= slot31; v++ {
		if !asGood(s, o.Tag(v), v) {
			return false
		}
	}
	for _, c := range o.Cons() {
		b := s.Bound(c.I, c.J)
		if slices.Contains(gone, c.I) || slices.Contains(gone, c.J) || !b.Is || b.C > c.C {
			return false
		}
	}
	return true
}

// asGood tells whether the tag of a register or slot in a shape is as good as another one.
func asGood(s *shape.Shape, want api.Tag, v int) bool {
	have := s.Tag(v)
	null := s.Bound(v, 0) == api.Bound{Is: true} && s.Bound(0, v) == api.Bound{Is: true}
	switch {
	case want == have, want == api.Tag{}:
		return true
	case want.Kind == api.KindNone:
		return have.Kind == api.KindNum || have.Kind == api.KindNone && have.Mask&want.Mask == want.Mask
	case want.Kind == api.KindMaybe:
		return null && (have.Kind == api.KindNum || have.Kind == api.KindRow && have.Table == want.Table)
	}
	return false
}

// sameShape tells whether two shapes have the same tags and bounds.
func sameShape(s, want *shape.Shape) bool {
	if s == nil || s.Dead() != want.Dead() || !s.Same(want.Zone) {
		return false
	}
	for v := r0; v <= slot31; v++ {
		if s.Tag(v) != want.Tag(v) {
			return false
		}
	}
	return true
}

// held answers a pair, and holds the answer against the chapter's words.
func (c pair) held(t *testing.T) (*check.Proven, api.Fault) {
	t.Helper()
	v, fault := check.Check(c.p, c.d)
	want := c.reckon()
	if fault != want.fault || (v == nil) != (fault != api.Fault{}) {
		t.Fatalf("%sis proven %t, %+v; the chapter's words have %+v", c.told(), v != nil, fault, want.fault)
	}
	if v != nil {
		c.wantTold(t, v, want.twin)
	}
	return v, fault
}
