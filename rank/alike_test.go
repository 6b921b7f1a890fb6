package rank_test

import (
	"testing"

	"warrant/api"
	"warrant/check"
	"warrant/rank"
)

// alike: two pairs that are bounded tell the same.
func alike(t *testing.T, c, o pair) {
	t.Helper()
	a, b := c.wantBounded(t), o.wantBounded(t)
	if a.Bound() != b.Bound() {
		t.Errorf("%shas the bound %d,\n%s%d", c.told(), a.Bound(), o.told(), b.Bound())
	}
	for h := range c.d.Loops {
		if a.Visits(h) != b.Visits(h) {
			t.Errorf("%shas %d visits of loop %d,\n%s%d", c.told(), a.Visits(h), h, o.told(), b.Visits(h))
		}
	}
	for k := range c.d.Claims {
		if a.Times(k) != b.Times(k) {
			t.Errorf("%sis %d times in block %d,\n%s%d", c.told(), a.Times(k), k, o.told(), b.Times(k))
		}
	}
}

// TestAlike (P14.5): pairs of the same flow, as many instructions in each block, the same claims and ranks, that differ in all else.
func TestAlike(t *testing.T) {
	one := alone(t)
	code := func(c pair, at int, i api.Ins) pair { return c.with(func(c *pair) { c.p.Code[at] = i }) }
	alike(t, one, code(one, 1, api.Ins{Op: api.OpMov, Dst: 3, Imm: 1}))
	alike(t, one, code(one, 1, api.Ins{Op: api.OpWide, Dst: 3, Imm: 7}).with(func(c *pair) { c.p.Code[0].Imm = 5 }))
	alike(t, one, code(one, 2, api.Ins{Op: api.OpSub, Dst: 3, Imm: 50}))
	alike(t, one, code(one, 2, api.Ins{Op: api.OpAdd, Dst: 3, Imm: -4}))
	alike(t, one, code(one, 3, api.Ins{Op: api.OpJsgt, Dst: 3, Imm: 60, Off: -2}))
	alike(t, one, code(one, 3, api.Ins{Op: api.OpJsge, Dst: 3, Imm: 1, Off: -2}))
	alike(t, one, one.with(func(c *pair) {
		c.p.Lo, c.p.Hi, c.p.Data, c.p.Tables = 7, api.MaxCtx, []byte{1, 2, 3}, []api.Table{{Rows: 3, Wide: 8}}
	}))
	sum := summing(t)
	alike(t, sum, sum.with(func(c *pair) { c.p.Lo, c.p.Hi = 3, 50 }))
	alike(t, sum, sum.with(func(c *pair) { c.p.Lo, c.p.Hi = 0, 0 }))
	alike(t, sum, code(sum, 5, api.Ins{Op: api.OpXor, Dst: 0, Reg: true, Src: 4}))
}

// TestUnlike (P14.5): what they hang on: how many instructions there are, the flow, a claim, a rank.
func TestUnlike(t *testing.T) {
	one := alone(t)
	longer := paired(t, "r0 = 0\nr3 = 100\nr5 = 1\ntop: r3 -= 3\nif r3 s> 0 goto top\nexit", one.d.Loops, one.d.Claims...)
	longer.wantCounts(t, counts(34), counts(1, 34, 1), 3+2*34+1)
	within := paired(t, "r0 = 0\nr3 = 100\ntop: r3 -= 3\nr5 = 1\nif r3 s> 0 goto top\nexit", one.d.Loops, one.d.Claims...)
	within.wantCounts(t, counts(34), counts(1, 34, 1), 2+3*34+1)
	narrow := one.more(1, most(r3, 90)).with(func(c *pair) { c.p.Code[1].Imm = 90 })
	narrow.wantCounts(t, counts(31), counts(1, 31, 1), 2+2*31+1)
	one.falling(0, 2, 2).wantCounts(t, counts(52), counts(1, 52, 1), 2+2*52+1)
	cut := paired(t, "r0 = 0\nr3 = 100\ntop: r3 -= 3\nif r3 s> 0 goto top\nr5 = 1\nexit", one.d.Loops, one.d.Claims...)
	cut.wantCounts(t, counts(34), counts(1, 34, 1), 2+2*34+2)
}

// TestDrawnAlike (P14.5): drawn pairs, with numbers and sizes turned that neither flow, nor claims, nor ranks have in them.
func TestDrawnAlike(t *testing.T) {
	t.Parallel()
	compared := 0
	for seed := range 60 {
		d := rolling(2000 + seed)
		c := d.grown(t)
		v, _ := check.Check(c.p, c.d)
		if v == nil {
			continue
		}
		if b, _ := rank.Check(v); b == nil {
			continue
		}
		for range 12 {
			other := c.with(func(c *pair) {
				switch i := &c.p.Code[d.Intn(len(c.p.Code))]; {
				case d.one(4):
					c.p.Hi = c.p.Lo + d.Intn(c.p.Hi-c.p.Lo+1)
				case d.one(4):
					c.p.Tables, c.p.Data = append(c.p.Tables, api.Table{Rows: 1 + d.Intn(9), Wide: 8}), make([]byte, d.Intn(9))
				case i.Op == api.OpMov && !i.Reg:
					i.Imm = d.Intn(9)
				case i.Op == api.OpAdd || i.Op == api.OpSub:
					i.Imm += among(d, 1, 2)
				case i.Op == api.OpXor:
					i.Op = among(d, api.OpOr, api.OpMul, api.OpAnd)
				case i.Op == api.OpJsle || i.Op == api.OpJsgt || i.Op == api.OpJsge:
					i.Imm++
				}
			})
			v, _ := check.Check(other.p, other.d)
			if v == nil {
				continue
			}
			if b, _ := rank.Check(v); b == nil {
				continue
			}
			compared++
			alike(t, c, other)
		}
	}
	if compared < 100 {
		t.Errorf("%d were compared", compared)
	}
}
