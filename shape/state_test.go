package shape_test

import (
	"math"
	"slices"
	"testing"

	"warrant/api"
	"warrant/shape"
)

// quiet are the numbers of 16 ghosts, all 0.
func quiet() []int { return make([]int, 16) }

func value(kind, table, x int) api.Value { return api.Value{Kind: kind, Table: table, X: x} }

func number(x int) api.Value { return value(api.KindNum, 0, x) }

// inReg is a state whose register of a variable holds a value, inStack one with a slot.
func inReg(v int, a api.Value) api.State {
	var st api.State
	st.Regs[v-2] = a
	return st
}

func inStack(v int, s api.Slot) api.State {
	var st api.State
	st.Stack[v-12] = s
	return st
}

func wantHolds(t *testing.T, s *shape.Shape, st api.State, ghosts []int, want bool) {
	t.Helper()
	if got := s.Holds(st, ghosts); got != want {
		t.Errorf("%s Holds %s: %v; want %v", told(s), shown(st, ghosts), got, want)
	}
}

// regTags are the tags of registers by names; in a table those of the tables 0 and 1 stand for all.
func regTags() map[string]api.Tag {
	return map[string]api.Tag{
		"none": {}, "num": num(), "stack": kind(api.KindStack), "ctx": kind(api.KindCtx), "data": kind(api.KindData),
		"row 0": row(0), "row 1": row(1), "maybe 0": maybe(0), "maybe 1": maybe(1), "maybe 7": maybe(7),
	}
}

// TestRegs (P9.5): each tag of a register against each value.
func TestRegs(t *testing.T) {
	values := map[string]api.Value{
		"nothing": {}, "nothing, with a number": {X: 3}, "0": number(0), "5": number(5), "0, with a table": {Kind: api.KindNum, Table: 1, Row: 9},
		"stack": value(api.KindStack, 0, 0), "stack 8": value(api.KindStack, 3, 8), "ctx": value(api.KindCtx, 0, 0), "ctx -1": value(api.KindCtx, 0, -1), "data": value(api.KindData, 0, 0),
		"row 0": value(api.KindRow, 0, 0), "row 0 at 4": value(api.KindRow, 0, 4), "row 1": {Kind: api.KindRow, Table: 1, Row: 63}, "row 1 at -1": value(api.KindRow, 1, -1), "row 7": {Kind: api.KindRow, Table: 7, Row: -5},
		"row 8": value(api.KindRow, 8, 0), "row -1": value(api.KindRow, -1, 0), "maybe 0": value(api.KindMaybe, 0, 0), "maybe 1": value(api.KindMaybe, 1, 0),
		"kind 7": value(7, 0, 0), "kind -1": value(-1, 0, 0), "kind beyond": value(math.MaxInt, 0, 0),
	}
	all := []string{}
	for name := range values {
		all = append(all, name)
	}
	want := map[string][]string{
		"none": all, "num": {"0", "5", "0, with a table"}, "stack": {"stack", "stack 8"}, "ctx": {"ctx", "ctx -1"}, "data": {"data"},
		"row 0": {"row 0", "row 0 at 4"}, "row 1": {"row 1", "row 1 at -1"},
		"maybe 0": {"0", "0, with a table", "row 0"}, "maybe 1": {"0", "0, with a table", "row 1"}, "maybe 7": {"0", "0, with a table", "row 7"},
	}
	for name, tag := range regTags() {
		for held, a := range values {
			is := slices.Contains(want[name], held)
			for _, v := range []int{2, x, 11} {
				if got := of(t, tags{v: tag}).Holds(inReg(v, a), quiet()); got != is {
					t.Errorf("the register %d of %s: %s: %v", v-2, name, held, got)
				}
			}
		}
	}
}

// TestSlots (P9.5): each tag of a slot against each slot.
func TestSlots(t *testing.T) {
	five, tail, junk := [8]byte{5}, [8]byte{7: 1}, [8]byte{1, 2, 3, 4, 5, 6, 7, 8}
	slots := map[string]api.Slot{
		"unwritten": {}, "0": {Mask: 255}, "5": {Bytes: five, Mask: 255}, "tail": {Bytes: tail, Mask: 255},
		"low": {Mask: 15}, "high": {Mask: 240}, "but one": {Mask: 127}, "one": {Mask: 1},
		"beyond": {Mask: 1 << 8}, "0 and beyond": {Mask: 255 + 1<<8}, "0 all ones": {Mask: -1}, "low and beyond": {Mask: 15 + 1<<62}, "none of the least": {Mask: math.MinInt},
		"stack": {Ptr: value(api.KindStack, 0, 8)}, "stack and bytes": {Ptr: value(api.KindStack, 2, 0), Bytes: junk, Mask: 255}, "ctx": {Ptr: value(api.KindCtx, 0, 0)}, "data": {Ptr: value(api.KindData, 0, 0)},
		"row 0": {Ptr: value(api.KindRow, 0, 0)}, "row 0 at 4": {Ptr: value(api.KindRow, 0, 4), Mask: 255}, "row 1": {Ptr: api.Value{Kind: api.KindRow, Table: 1, Row: 5}, Bytes: junk}, "row 8": {Ptr: value(api.KindRow, 8, 0)},
		"said 0": {Ptr: number(0), Mask: 255}, "said 5": {Ptr: number(5), Bytes: five, Mask: 255}, "maybe 0": {Ptr: value(api.KindMaybe, 0, 0), Mask: 255}, "kind 7": {Ptr: value(7, 0, 0), Mask: 255}, "kind -1": {Ptr: value(-1, 0, 0), Mask: 255},
		"none at 4": {Ptr: api.Value{X: 4, Table: 2, Row: 3}, Mask: 255},
	}
	all := []string{}
	for name := range slots {
		all = append(all, name)
	}
	zeros := []string{"0", "0 and beyond", "0 all ones", "none at 4"}
	written := append([]string{"5", "tail"}, zeros...)
	want := map[string][]string{
		"none": all, "num": written, "stack": {"stack", "stack and bytes"}, "ctx": {"ctx"}, "data": {"data"}, "row 0": {"row 0", "row 0 at 4"}, "row 1": {"row 1"},
		"maybe 0": append([]string{"row 0"}, zeros...), "maybe 1": append([]string{"row 1"}, zeros...), "maybe 7": zeros,
		"low": append([]string{"low", "but one", "low and beyond"}, written...), "high": append([]string{"high"}, written...), "last": append([]string{"high"}, written...),
		"first": append([]string{"low", "but one", "one", "low and beyond"}, written...), "whole": written,
	}
	list := regTags()
	list["low"], list["high"], list["first"], list["last"], list["whole"] = mask(15), mask(240), mask(1), mask(128), mask(255)
	for name, tag := range list {
		for held, s := range slots {
			is := slices.Contains(want[name], held)
			for _, v := range []int{12, slot2, 43} {
				if got := of(t, tags{v: tag}).Holds(inStack(v, s), quiet()); got != is {
					t.Errorf("the slot %d of %s: %s: %v", v-12, name, held, got)
				}
			}
		}
	}
}

// TestAllPlaces (P9.5): each register and slot is looked at, and r10 is not.
func TestAllPlaces(t *testing.T) {
	all := tags{}
	var st api.State
	for v := 2; v <= 43; v++ {
		all[v] = num()
		if isReg(v) {
			st.Regs[v-2] = number(v)
		} else {
			st.Stack[v-12] = api.Slot{Bytes: [8]byte{byte(v)}, Mask: 255}
		}
	}
	s := of(t, all)
	wantHolds(t, s, st, quiet(), true)
	for _, a := range []api.Value{{}, number(4), value(api.KindCtx, 0, 0), value(9, 9, 9)} {
		st.Regs[10] = a
		wantHolds(t, s, st, quiet(), true)
	}
	for v := range all {
		now := st
		if isReg(v) {
			now.Regs[v-2] = api.Value{}
		} else {
			now.Stack[v-12] = api.Slot{Mask: 254}
		}
		wantHolds(t, s, now, quiet(), false)
		wantHolds(t, of(t, all, exactly(v, v)...), st, quiet(), true)
		wantHolds(t, of(t, all, exactly(v, v+1)...), st, quiet(), false)
		wantHolds(t, of(t, all, exactly(v, v-1)...), st, quiet(), false)
	}
}

// TestNumbers (P9.5): what the number of each variable is, held against bounds that say just that.
func TestNumbers(t *testing.T) {
	same := func(st api.State, ghosts []int, l tags, v, n int) {
		t.Helper()
		wantHolds(t, of(t, l, exactly(v, n)...), st, ghosts, true)
		wantHolds(t, of(t, l, con(v, 0, n-1)), st, ghosts, false)
		wantHolds(t, of(t, l, con(0, v, -n-1)), st, ghosts, false)
	}
	same(api.State{}, quiet(), nil, 1, 0)
	same(api.State{Ctx: make([]byte, 7, 9)}, quiet(), nil, 1, 7)
	same(api.State{Ctx: make([]byte, 70000)}, quiet(), nil, 1, 70000)
	for _, n := range []int{0, 1, -1, -9, 1 << 40, 1 - most, most - 1} {
		for k := api.KindNum; k <= api.KindRow; k++ {
			same(inReg(x, value(k, 0, n)), quiet(), tags{x: kind(k)}, x, n)
			if k > api.KindNum {
				junk := api.Slot{Ptr: value(k, 0, n), Bytes: [8]byte{9, 9}, Mask: 255}
				same(inStack(slot2, junk), quiet(), tags{slot2: kind(k)}, slot2, n)
			}
		}
		bytes := [8]byte{}
		for k := range bytes {
			bytes[k] = byte(n >> (8 * k))
		}
		same(inStack(slot2, api.Slot{Bytes: bytes, Mask: -1}), quiet(), tags{slot2: num()}, slot2, n)
		for g := range 16 {
			ghosts := quiet()
			ghosts[g] = n
			same(api.State{}, ghosts, nil, 44+g, n)
		}
	}
}

// TestExact (P9.5): i less j is reckoned exactly, where no int can hold it too.
func TestExact(t *testing.T) {
	far := []int{math.MinInt, math.MinInt + 1, -most - 1, -most, 1 - most, -1, 0, 1, most - 1, most, most + 1, math.MaxInt - 1, math.MaxInt}
	l := tags{x: num(), slot2: num()}
	for _, c := range []int{most, most - 1, 1, 0, -1, 1 - most, -most} {
		k, _ := reckonFrom(claim(l, con(x, slot2, c)))
		s := of(t, l, con(x, slot2, c))
		for _, a := range far {
			for _, base := range far {
				for _, b := range []int{base, a - c, a - c - 1, a - c + 1} {
					st := inReg(x, number(a))
					for k := range 8 {
						st.Stack[2].Bytes[k] = byte(b >> (8 * k))
					}
					st.Stack[2].Mask = 255
					wantHolds(t, s, st, quiet(), k.holds(st, quiet()))
				}
			}
		}
	}
	two := func(a, b int) api.State {
		st := inReg(x, number(a))
		st.Regs[y-2] = number(b)
		return st
	}
	above, below := of(t, tags{x: num(), y: num()}, con(x, y, most)), of(t, tags{x: num(), y: num()}, con(x, y, -most))
	wantHolds(t, above, two(math.MaxInt, math.MinInt), quiet(), false)
	wantHolds(t, above, two(math.MinInt, math.MaxInt), quiet(), true)
	wantHolds(t, below, two(math.MinInt, math.MaxInt), quiet(), true)
	wantHolds(t, below, two(math.MaxInt, math.MinInt), quiet(), false)
	wantHolds(t, below, two(math.MinInt, most+math.MinInt), quiet(), true)
	wantHolds(t, below, two(math.MinInt, most+math.MinInt-1), quiet(), false)
}

// TestBounds (P9.5): each bound is asked, between any two variables; those without a value are of none.
func TestBounds(t *testing.T) {
	l := tags{x: num(), y: row(1), slot2: kind(api.KindStack), 43: num(), 11: maybe(0)}
	st := api.State{Ctx: make([]byte, 10)}
	st.Regs[3], st.Regs[4], st.Regs[9] = number(20), value(api.KindRow, 1, 30), number(0)
	st.Stack[2], st.Stack[31] = api.Slot{Ptr: value(api.KindStack, 0, 40)}, api.Slot{Bytes: [8]byte{50}, Mask: 255}
	ghosts := quiet()
	ghosts[0], ghosts[15] = 60, 70
	at := map[int]int{0: 0, 1: 10, x: 20, y: 30, slot2: 40, 43: 50, 44: 60, 59: 70, 45: 0}
	for i, a := range at {
		for j, b := range at {
			if i != j {
				wantHolds(t, of(t, l, con(i, j, a-b)), st, ghosts, true)
				wantHolds(t, of(t, l, con(i, j, a-b-1)), st, ghosts, false)
				wantHolds(t, of(t, l, con(i, j, a-b-1), con(0, 46, 0)), st, ghosts, false)
			}
		}
	}
}

// TestGhosts (P9.5): just 16 of them, also where the shape says nothing of them; of the dead shape is no state.
func TestGhosts(t *testing.T) {
	s := of(t, nil)
	for n := range 40 {
		wantHolds(t, s, api.State{}, make([]int, n), n == 16)
		wantHolds(t, shape.Dead(), api.State{}, make([]int, n), false)
	}
	wantHolds(t, s, api.State{}, nil, false)
	wantHolds(t, of(t, nil, con(59, 0, 3)), api.State{}, append(quiet(), 0)[:15], false)
	wantHolds(t, s, api.State{At: -5, Steps: -1, Done: true, Sent: []int{1}, Tables: [][]byte{nil}}, quiet(), true)
}
