package pack_test

import (
	"bytes"
	"math"
	"slices"
	"sync"
	"testing"

	"warrant/api"
	"warrant/pack"
)

// roomy is a list with room behind it, in which there is something too.
func roomy[T any](room T, l ...T) []T {
	all := append(slices.Clone(l), room, room, room)
	return all[:len(l)]
}

// roomyPack has something in each list, and behind it.
func roomyPack() api.Pack {
	return api.Pack{Lo: 3, Hi: 300, Data: roomy[byte](77, 1, 2, 3), Tables: roomy(table(9, 9), table(1, 2), table(64, 64)), Code: roomy[byte](88, raw(pointer, "03 00 00 00", exit)...)}
}

func roomyProgram() api.Program {
	k := roomyPack()
	return instructed(k, roomy(wideIns(), api.Ins{Op: api.OpData, Dst: 4, Imm: 3}, leave())...)
}

// all is a list with all the room behind it.
func all[T any](l []T) []T { return slices.Clone(l[:cap(l)]) }

func wholePack(k api.Pack) api.Pack {
	return api.Pack{Lo: k.Lo, Hi: k.Hi, Data: all(k.Data), Tables: all(k.Tables), Code: all(k.Code)}
}

func wholeProgram(p api.Program) api.Program {
	return api.Program{Lo: p.Lo, Hi: p.Hi, Data: all(p.Data), Tables: all(p.Tables), Code: all(p.Code)}
}

// fill writes something into a list, and into the room behind it.
func fill[T any](l []T, with T) {
	for n := range l[:cap(l)] {
		l[:cap(l)][n] = with
	}
}

func spoilPack(k api.Pack) {
	fill(k.Data, 0xdd)
	fill(k.Tables, table(-7, -7))
	fill(k.Code, 0xcc)
}

func spoilProgram(p api.Program) {
	fill(p.Data, 0xdd)
	fill(p.Tables, table(-7, -7))
	fill(p.Code, api.Ins{Op: -7})
}

// TestHandedIn (R3): containers, programs and bytes that are handed in read as before, the room behind them too.
func TestHandedIn(t *testing.T) {
	k, p := roomyPack(), roomyProgram()
	wasK, wasP := wholePack(k), wholeProgram(p)
	b, _ := pack.Encode(k)
	b = roomy(0x5a, b...)
	wasB := all(b)
	wantProgram(t, k, p)
	wantRead(t, b, k)
	for at := range b { // refused ones too
		pack.Decode(b[:at])
	}
	pack.Program(api.Pack{Hi: 9, Data: k.Data[:1], Tables: k.Tables, Code: k.Code})
	pack.Program(api.Pack{Hi: 9, Data: k.Data, Tables: k.Tables, Code: k.Code[:9]})
	pack.Encode(api.Pack{Lo: 9, Data: k.Data, Tables: k.Tables, Code: k.Code})
	wantWrong(t, api.Program{Hi: 9, Data: p.Data[:1], Tables: p.Tables, Code: p.Code}, 0, api.ErrData)
	wantWrong(t, api.Program{Lo: 10, Hi: 9, Data: p.Data, Tables: p.Tables, Code: p.Code}, 0, api.ErrLens)
	if !samePack(wholePack(k), wasK) || !sameProgram(wholeProgram(p), wasP) || !bytes.Equal(all(b), wasB) {
		t.Error("something that was handed in has changed")
	}
}

// TestNotKept (R3): what is answered stays as it is, whatever becomes of what was handed in.
func TestNotKept(t *testing.T) {
	k, p := roomyPack(), roomyProgram()
	b, _ := pack.Encode(k)
	wasB := bytes.Clone(b)
	program, _, _ := pack.Program(k)
	made, _, _ := pack.Of(p)
	read, _, e := pack.Decode(wasB)
	if e != api.OK {
		t.Fatal(e)
	}
	spoilPack(k)
	spoilProgram(p)
	if !bytes.Equal(b, wasB) {
		t.Error("Encode's bytes changed with the container")
	}
	fill(wasB, 0xbb)
	if !samePack(read, roomyPack()) {
		t.Error("Decode's container changed with the bytes")
	}
	if !sameProgram(program, roomyProgram()) {
		t.Error("Program's program changed with the container")
	}
	if !samePack(made, roomyPack()) {
		t.Error("Of's container changed with the program")
	}
}

// TestNew (R3): what is answered is new memory, spare room too: writing there changes nothing of what was handed in, nothing of another answer, no other list of the same one.
func TestNew(t *testing.T) {
	k, p := roomyPack(), roomyProgram()
	b, _ := pack.Encode(k)
	wasK, wasP, wasB := wholePack(k), wholeProgram(p), all(b)
	other, _ := pack.Encode(k)
	fill(other, 0xee)
	for _, answer := range []func() api.Pack{
		func() api.Pack { k, _, _ := pack.Decode(b); return k },
		func() api.Pack { k, _, _ := pack.Of(p); return k },
	} {
		one, two := answer(), answer()
		spoilPack(one)
		if !samePack(two, roomyPack()) {
			t.Error("two answers share something")
		}
		wantApart(t, two)
	}
	one, _, _ := pack.Program(k)
	two, _, _ := pack.Program(k)
	spoilProgram(one)
	if !sameProgram(two, roomyProgram()) {
		t.Error("two programs share something")
	}
	fill(two.Data, 0xdd)
	if !slices.Equal(two.Code, roomyProgram().Code) || !slices.Equal(two.Tables, roomyProgram().Tables) {
		t.Error("lists of one program share something")
	}
	if !samePack(wholePack(k), wasK) || !sameProgram(wholeProgram(p), wasP) || !bytes.Equal(all(b), wasB) {
		t.Error("what was handed in changed with an answer")
	}
}

// wantApart wants no two lists of a container to share any room.
func wantApart(t *testing.T, k api.Pack) {
	t.Helper()
	fill(k.Data, 0xdd)
	if !bytes.Equal(k.Code, roomyPack().Code) || !slices.Equal(k.Tables, roomyPack().Tables) {
		t.Error("data's room is another list's")
	}
	data := all(k.Data)
	fill(k.Code, 0xcc)
	if !bytes.Equal(all(k.Data), data) {
		t.Error("code's room is the data's")
	}
}

// TestAnything (R1): each call ends, and does not panic, at whatever it is handed.
func TestAnything(t *testing.T) {
	d := drawing(1, 3)
	some := func() int {
		return []int{0, 1, -1, 64, 65, 65535, 65536, math.MinInt, math.MaxInt, 1 << 32, d.Intn(100) - 50, int(d.Uint64())}[d.Intn(12)]
	}
	for range 20000 {
		k := api.Pack{Lo: some(), Hi: some(), Data: d.bytes(d.Intn(10)), Code: d.bytes(d.Intn(40))}
		if d.one(2) {
			k.Lo, k.Hi = 0, 9
		}
		p := api.Program{Lo: k.Lo, Hi: k.Hi, Data: k.Data}
		for range d.Intn(3) {
			k.Tables = append(k.Tables, table(some(), some()))
		}
		if d.one(2) {
			p.Tables = k.Tables
		}
		for range d.Intn(4) {
			p.Code = append(p.Code, api.Ins{Op: d.Intn(42) - 1, Narrow: d.one(2), Reg: d.one(2), Size: some(), Dst: some(), Src: some(), Off: some(), Imm: some()})
		}
		pack.Encode(k)
		pack.Program(k)
		pack.Of(p)
		pack.Check(p)
		pack.Decode(d.bytes(d.Intn(40)))
		pack.Decode(summed(append(raw(mark), d.bytes(d.Intn(40))...)))
		pack.Decode(summed(append(raw(before), d.bytes(d.Intn(40))...)))
	}
}

// TestShortBytes (R1, P12.2): all bytes of a few that may stand for sections are read, or refused, as the chapter says.
func TestShortBytes(t *testing.T) {
	few := []byte{0, 1, 2, 3, 4, 5, 65, 255}
	var longer func(b []byte, left int)
	longer = func(b []byte, left int) {
		for _, ahead := range []string{mark, before} {
			whole := summed(append(raw(ahead), b...))
			k, at, e := pack.Decode(whole)
			if want, wantAt, wantE := oracleDecode(whole); e != wantE || at != wantAt || !samePack(k, want) {
				t.Fatalf("Decode(%s): %s, %d, %v; want %s, %d, %v", cut(whole), told(k), at, e, told(want), wantAt, wantE)
			}
		}
		if left == 0 {
			return
		}
		for _, next := range few {
			longer(append(slices.Clone(b), next), left-1)
		}
	}
	longer(nil, 5)
}

// TestSideBySide (R4): calls side by side answer what they answer one by one.
func TestSideBySide(t *testing.T) {
	k, p := roomyPack(), roomyProgram()
	b, _ := pack.Encode(k)
	var wait sync.WaitGroup
	for range 16 {
		wait.Go(func() {
			for range 200 {
				wantProgram(t, k, p)
				wantRead(t, b, k)
				if again, e := pack.Encode(k); e != api.OK || !bytes.Equal(again, b) {
					t.Errorf("Encode: %s, %v", cut(again), e)
				}
			}
		})
	}
	wait.Wait()
}
