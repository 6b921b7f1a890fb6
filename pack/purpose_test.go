package pack_test

import (
	"bytes"
	"math"
	"slices"
	"strings"
	"testing"

	"warrant/api"
	"warrant/pack"
)

// thereAndBack wants a container that is written to be read as it was.
func thereAndBack(t *testing.T, k api.Pack) {
	t.Helper()
	b, e := pack.Encode(k)
	if e != api.OK {
		return
	}
	wantRead(t, b, k)
}

// backAndThere wants bytes that are read to be written as they were.
func backAndThere(t *testing.T, b []byte) bool {
	t.Helper()
	k, _, e := pack.Decode(b)
	if e != api.OK {
		return false
	}
	if again, e := pack.Encode(k); e != api.OK || !bytes.Equal(again, b) {
		t.Fatalf("Encode(%s): %s, %v; want %s", told(k), cut(again), e, cut(b))
	}
	return true
}

// TestThereAndBack (P12.5): drawn containers and drawn bytes, those too that are no right ones.
func TestThereAndBack(t *testing.T) {
	taken := 0
	for n := range 30000 {
		d := drawing(int64(n), n%3*12)
		k := d.pack()
		thereAndBack(t, k)
		if backAndThere(t, d.pieced()) {
			taken++
		}
		if b, e := pack.Encode(k); e == api.OK {
			backAndThere(t, b)
			if backAndThere(t, d.turned(b)) {
				taken++
			}
		}
	}
	if taken < 2000 {
		t.Errorf("only %d drawn bytes were taken", taken)
	}
}

// TestEachByte (P12.5): each byte of right sections turned to each other value, with a right sum: what is taken, is written so.
func TestEachByte(t *testing.T) {
	body, _ := full()
	taken := 0
	for at := range body {
		for turn := 1; turn < 256; turn++ {
			b := bytes.Clone(body)
			b[at] ^= byte(turn)
			if backAndThere(t, summed(b)) {
				taken++
			}
		}
	}
	if taken == 0 || taken == 255*len(body) {
		t.Errorf("%d were taken", taken)
	}
}

// TestProgramAndBack (P12.5): programs and containers are one another's, both ways.
func TestProgramAndBack(t *testing.T) {
	programs, packs := 0, 0
	for n := range 20000 {
		d := drawing(int64(n), n%3*25)
		p := d.program()
		if k, _, e := pack.Of(p); e == api.OK {
			programs++
			wantProgram(t, k, p)
		}
		k := d.bare()
		for range d.Intn(4) {
			k.Code = append(k.Code, raw([]string{exit, wide, pointer + "00 00 00 00", pointer + "05 00 00 00", "95", "07 01 00 00 02 00 00 00", "bc 12 10 00 00 00 00 00"}[d.Intn(7)])...)
		}
		if p, _, e := pack.Program(k); e == api.OK {
			packs++
			wantProgram(t, k, p)
		}
	}
	if programs < 3000 || packs < 3000 {
		t.Errorf("only %d programs and %d containers were taken", programs, packs)
	}
}

// TestNoTwo (P12.5): no two drawn containers have the same bytes, no two drawn programs the same container.
func TestNoTwo(t *testing.T) {
	packs, programs := map[string]api.Pack{}, map[string]api.Program{}
	for n := range 20000 {
		d := drawing(int64(n), 0)
		k := api.Pack{Hi: d.Intn(2), Data: d.bytes(d.Intn(2)), Code: d.bytes(d.Intn(2))}
		if d.one(2) {
			k.Tables = []api.Table{table(1+d.Intn(3), 1+d.Intn(3))}
		}
		b, e := pack.Encode(k)
		if other, is := packs[string(b)]; e != api.OK || is && !samePack(other, k) {
			t.Fatalf("%s and %s are both %s, %v", told(k), told(other), cut(b), e)
		}
		packs[string(b)] = k
		p := instructed(k, []api.Ins{leave(), wideIns(), {Op: api.OpMov}, {Op: api.OpMov, Narrow: true}}[:1+d.Intn(4)]...)
		k, _, e = pack.Of(p)
		b, _ = pack.Encode(k)
		if other, is := programs[string(b)]; e != api.OK || is && !sameProgram(other, p) {
			t.Fatalf("%s and %s are both %s, %v", listed(p), listed(other), told(k), e)
		}
		programs[string(b)] = p
	}
}

// TestSumHolds (P12.6): every byte of containers, each turned to each other value: they are refused.
func TestSumHolds(t *testing.T) {
	for n := range 60 {
		k := drawing(int64(n), 0).bare()
		k.Data = k.Data[:min(len(k.Data), 30)]
		k.Code = drawing(int64(n), 0).bytes(n % 20)
		b, e := pack.Encode(k)
		if e != api.OK {
			t.Fatal(e)
		}
		wantHeld(t, b, 1)
	}
	long := second()
	long.Code = bytes.Repeat([]byte{0xe7}, 2000)
	b, _ := pack.Encode(long)
	wantHeld(t, b, 51)
}

// wantHeld turns each byte to others, by so much more each time.
func wantHeld(t *testing.T, b []byte, by int) {
	t.Helper()
	for at := range b {
		right := b[at]
		for turn := 1; turn < 256; turn += by {
			b[at] = right ^ byte(turn)
			want, place := api.ErrSum, len(b)-4
			if at < 4 {
				want, place = api.ErrPack, 0
			}
			wantBad(t, b, place, want)
		}
		b[at] = right
	}
	if _, _, e := pack.Decode(b); e != api.OK {
		t.Fatalf("%s: %v", cut(b), e)
	}
}

// TestShortEnough (P12.7): the greatest program there can be has a container that is written.
func TestShortEnough(t *testing.T) {
	for _, i := range []api.Ins{{Op: api.OpWide, Dst: 9, Imm: math.MinInt}, {Op: api.OpData, Dst: 9, Imm: 4096}} {
		p := api.Program{Lo: 65535, Hi: 65535, Data: bytes.Repeat([]byte{255}, 4096), Tables: slices.Repeat([]api.Table{table(64, 64)}, 8), Code: slices.Repeat([]api.Ins{i}, 4096)}
		k, at, e := pack.Of(p)
		if e != api.OK {
			t.Fatalf("Of: %d, %v", at, e)
		}
		b, e := pack.Encode(k)
		if want := 4 + 8 + 20 + 4100 + 65540 + 4; e != api.OK || len(b) != want || want > api.MaxPack {
			t.Fatalf("Encode: %d bytes, %v; want %d", len(b), e, want)
		}
		wantRead(t, b, k)
		wantProgram(t, k, p)
	}
	wantNone(t, coded(strings.Repeat(wide, 4096), wide), 8192, api.ErrMany)
}
