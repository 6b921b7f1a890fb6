package check_test

import (
	"slices"
	"testing"

	"warrant/api"
	"warrant/check"
	"warrant/flow"
	"warrant/shape"
)

func sameProgram(a, b api.Program) bool {
	return a.Lo == b.Lo && a.Hi == b.Hi && slices.Equal(a.Data, b.Data) && slices.Equal(a.Tables, b.Tables) && slices.Equal(a.Code, b.Code)
}

func sameDeed(a, b api.Deed) bool {
	return slices.Equal(a.Loops, b.Loops) && slices.EqualFunc(a.Claims, b.Claims, func(a, b api.Claim) bool {
		return a.Dead == b.Dead && a.Regs == b.Regs && a.Stack == b.Stack && slices.Equal(a.Cons, b.Cons)
	})
}

func sameFlow(a, b *flow.Flow) bool {
	blocks := slices.EqualFunc(a.Blocks(), b.Blocks(), func(a, b api.Block) bool {
		return a.From == b.From && a.To == b.To && slices.Equal(a.Next, b.Next)
	})
	loops := slices.EqualFunc(a.Loops(), b.Loops(), func(a, b api.Around) bool {
		return a.Head == b.Head && a.Parent == b.Parent && slices.Equal(a.Blocks, b.Blocks)
	})
	return blocks && loops && slices.Equal(a.Order(), b.Order())
}

// wantTold holds what a proven program tells against the chapter's words.
func (c pair) wantTold(t *testing.T, v *check.Proven, o *twin) {
	t.Helper()
	f, _, _ := flow.Make(c.p.Code)
	if !sameProgram(v.Program(), c.p) || !sameDeed(v.Deed(), c.d) || !sameFlow(v.Flow(), f) {
		t.Fatalf("%sis not what the proven program tells", c.told())
	}
	for i := -1; i <= len(c.p.Code); i++ {
		if s := v.Before(i); !sameShape(s, o.before(i)) {
			t.Fatalf("%sahead of %d it is %s; want %s", c.told(), i, told(s), told(o.before(i)))
		}
	}
	for k := -1; k <= len(o.blocks); k++ {
		for edge := -1; edge <= 2; edge++ {
			if s := v.Post(k, edge); !sameShape(s, o.post(k, edge)) {
				t.Fatalf("%son the edge %d of %d it is %s; want %s", c.told(), edge, k, told(s), told(o.post(k, edge)))
			}
		}
	}
}

func isDead(s *shape.Shape) bool { return s != nil && s.Dead() }

// TestBefore (P13.2): the shapes ahead of the example's instructions, of the first one of a block its claim's, in the head with the ghosts.
func TestBefore(t *testing.T) {
	c := summing(t)
	v := c.wantProven(t)
	wantBounds := func(i int, cs ...api.Con) {
		t.Helper()
		s := v.Before(i)
		for _, con := range cs {
			if s.Bound(con.I, con.J) != (api.Bound{Is: true, C: con.C}) {
				t.Errorf("ahead of %d %v is not there: %s", i, con, told(s))
			}
		}
	}
	wantBounds(0, con(r1, 0, 0), con(r2, ln, 0), con(ln, 0, 100))
	wantBounds(1, con(r0, 0, 0))
	wantBounds(2, con(r3, r1, 0), con(r3, 0, 0))
	wantBounds(3, con(r1, ln, 0), con(r1, ghost0, 0), con(ghost0, r1, 0), con(r3, ghost0+1, 0), con(ghost0+1, r3, 0), con(ghost0+1, ghost0, 0), con(ghost0, ln, 0))
	wantBounds(4, con(r3, r1, -1), con(r1, ghost0, 0), con(ghost0+1, r3, 0))
	wantBounds(5, con(r4, 0, 255), con(0, r4, 0))
	wantBounds(7, con(r3, r1, 0), con(ghost0+1, r3, -1))
	if s := v.Before(0); s.Bound(ghost0, 0).Is || s.Tag(r1) != ctx() || s.Tag(r0) != (api.Tag{}) {
		t.Errorf("ahead of 0: %s", told(s))
	}
	if s := v.Before(8); s.Tag(r0) != num() || len(s.Cons()) != 0 || s.Tag(r1) != (api.Tag{}) {
		t.Errorf("ahead of 8: %s", told(s))
	}
}

// TestBeyond (P13.2): where there is no instruction, no block, or no edge, the shape is dead.
func TestBeyond(t *testing.T) {
	v := summing(t).wantProven(t)
	for _, i := range []int{-1 << 63, -9, -1, 9, 10, 1 << 62} {
		if !isDead(v.Before(i)) {
			t.Errorf("ahead of %d: %s", i, told(v.Before(i)))
		}
	}
	for i := range 9 {
		if isDead(v.Before(i)) {
			t.Errorf("ahead of %d it is dead", i)
		}
	}
	edges := []int{1, 2, 1, 0}
	for k := -2; k < 6; k++ {
		for edge := -2; edge < 4; edge++ {
			is := k >= 0 && k < 4 && edge >= 0 && edge < edges[k]
			if isDead(v.Post(k, edge)) == is {
				t.Errorf("on the edge %d of %d: %s", edge, k, told(v.Post(k, edge)))
			}
		}
	}
	for _, far := range []int{-1 << 63, 1<<63 - 1} {
		if !isDead(v.Post(far, 0)) || !isDead(v.Post(0, far)) || !isDead(v.Post(far, far)) {
			t.Errorf("an edge of %d is not dead", far)
		}
	}
}

// TestPost (P13.2): the shapes on the example's edges, ahead of the forgetting: with the ghosts on the edge back to the head, and on the one that leaves the loop.
func TestPost(t *testing.T) {
	v := summing(t).wantProven(t)
	wantBound := func(k, edge int, cs ...api.Con) {
		t.Helper()
		s := v.Post(k, edge)
		for _, con := range cs {
			if s.Bound(con.I, con.J) != (api.Bound{Is: true, C: con.C}) {
				t.Errorf("on the edge %d of %d %v is not there: %s", edge, k, con, told(s))
			}
		}
	}
	wantBound(0, 0, con(r1, r3, 100), con(r1, ln, 0), con(r0, 0, 0))
	wantBound(1, 0, con(r1, r3, 0), con(r1, ghost0, 0), con(ghost0+1, ghost0, 0), con(ghost0, ghost0+1, 0))
	wantBound(1, 1, con(r3, r1, -1), con(r1, ghost0, 0), con(ghost0+1, ghost0, -1))
	wantBound(2, 0, con(r3, r1, 0), con(ghost0+1, r3, -1), con(r4, 0, 255))
	if s := v.Post(0, 0); s.Bound(ghost0, 0).Is {
		t.Errorf("a ghost ahead of its loop: %s", told(s))
	}
}

// TestDeadTold (P13.2): in a block that is Dead all is dead, and so is what stands behind a dead shape, though its block isn't.
func TestDeadTold(t *testing.T) {
	c := paired(t, "r0 = 1\nif r0 == 2 goto out\nr3 = 5\nexit\nout: r0 = r9\nif r0 == 3 goto more\nexit\nmore: exit", nil,
		claim(nil), claim(tags{r0: num()}), dead(), dead(), dead())
	v := c.wantProven(t)
	for i, want := range []bool{false, false, false, false, true, true, true, true, true} {
		if isDead(v.Before(i)) != want {
			t.Errorf("ahead of %d: %s", i, told(v.Before(i)))
		}
	}
	for _, edge := range [][2]int{{0, 0}, {2, 0}, {2, 1}, {3, 0}} {
		if s := v.Post(edge[0], edge[1]); !isDead(s) {
			t.Errorf("on the edge %v: %s", edge, told(s))
		}
	}
	if isDead(v.Post(0, 1)) {
		t.Error("the edge that is gone is dead")
	}
}

// TestNewEachTime (P13.2, R3, R6): what a proven program tells is new memory each time; who writes over it turns nothing.
func TestNewEachTime(t *testing.T) {
	c := tabled(t)
	v, o := c.wantProven(t), c.reckon().twin
	for range 2 {
		p, d := v.Program(), v.Deed()
		spoilProgram(p)
		spoilDeed(d)
		f := v.Flow()
		for _, b := range f.Blocks() {
			clear(b.Next[:cap(b.Next)])
		}
		for _, l := range f.Loops() {
			clear(l.Blocks[:cap(l.Blocks)])
		}
		clear(f.Order())
		c.wantTold(t, v, o)
		*f = flow.Flow{}
		if v.Flow() == v.Flow() || v.Before(3) == v.Before(3) || v.Before(3).Zone == v.Before(3).Zone || v.Post(1, 0) == v.Post(1, 0) {
			t.Error("an answer is told twice")
		}
		for i := range c.p.Code {
			s := v.Before(i)
			*s.Zone = *shape.Dead().Zone
			*s = *shape.Dead()
		}
		for k := range c.d.Claims {
			s := v.Post(k, 0)
			*s.Zone = *shape.Dead().Zone
			*s = *shape.Dead()
		}
		c.wantTold(t, v, o)
	}
}

// TestNoListsShared (R3): no two lists of what is told share memory, spare room too.
func TestNoListsShared(t *testing.T) {
	c := tabled(t)
	v := c.wantProven(t)
	for k := range c.d.Claims {
		d := v.Deed()
		l := d.Claims[k].Cons
		l = l[:cap(l)]
		for n := range l {
			l[n] = con(-7, -7, -7)
		}
		d.Claims[k].Cons = c.d.Claims[k].Cons
		if !sameDeed(d, c.d) {
			t.Errorf("the bounds of claim %d are shared", k)
		}
	}
}
