package word_test

import (
	"bytes"
	"math/big"
	"slices"
	"testing"

	"warrant/api"
	"warrant/word"
)

func wantAlu(t *testing.T, op int, narrow bool, a, b, want int, e api.Errno) {
	t.Helper()
	if v, f := word.Alu(op, narrow, a, b); v != want || f != e {
		t.Errorf("Alu(%d, %v, %d, %d) = %d, %v; want %d, %v", op, narrow, a, b, v, f, want, e)
	}
}

func wantSwap(t *testing.T, size int, turned bool, a, want int) {
	t.Helper()
	if v := word.Swap(size, turned, a); v != want {
		t.Errorf("Swap(%d, %v, %d) = %d; want %d", size, turned, a, v, want)
	}
}

func wantExtend(t *testing.T, size int, narrow bool, a, want int) {
	t.Helper()
	if v := word.Extend(size, narrow, a); v != want {
		t.Errorf("Extend(%d, %v, %d) = %d; want %d", size, narrow, a, v, want)
	}
}

func wantHolds(t *testing.T, op int, narrow bool, a, b int, want bool) {
	t.Helper()
	if v := word.Holds(op, narrow, a, b); v != want {
		t.Errorf("Holds(%d, %v, %d, %d) = %v; want %v", op, narrow, a, b, v, want)
	}
}

func wantGet(t *testing.T, b []byte, signed bool, want int) {
	t.Helper()
	if v := word.Get(b, signed); v != want {
		t.Errorf("Get(%x, %v) = %d; want %d", b, signed, v, want)
	}
}

func wantPut(t *testing.T, size, v int, want []byte) {
	t.Helper()
	if b := word.Put(size, v); !bytes.Equal(b, want) {
		t.Errorf("Put(%d, %d) = %x; want %x", size, v, b, want)
	}
}

// alu is Alu of what is not refused.
func alu(t *testing.T, op int, narrow bool, a, b int) int {
	t.Helper()
	v, e := word.Alu(op, narrow, a, b)
	if e != api.OK {
		t.Errorf("Alu(%d, %v, %d, %d): %v", op, narrow, a, b, e)
	}
	return v
}

// pairs calls do for every two of the numbers.
func pairs(do func(a, b int)) {
	l := numbers()
	for _, a := range l {
		for _, b := range l {
			do(a, b)
		}
	}
}

// strangers are numbers that are none of known, some of them with the same low bits.
func strangers(known []int) []int {
	l := []int{least, least + known[0], -1 << 32, 1<<32 + known[0], 1<<16 + known[0], most}
	for op := -20; op <= 300; op++ {
		if !slices.Contains(known, op) {
			l = append(l, op)
		}
	}
	return l
}

// TestExamples: every row of the chapter's section Examples.
func TestExamples(t *testing.T) {
	wantAlu(t, api.OpAdd, false, most, 1, least, api.OK)
	wantAlu(t, api.OpAdd, true, 1<<32-1, 1, 0, api.OK)
	wantAlu(t, api.OpAdd, true, -1, 0, 1<<32-1, api.OK)

	wantAlu(t, api.OpDiv, false, -1, 2, most, api.OK)
	wantAlu(t, api.OpSdiv, false, -7, 2, -3, api.OK)
	wantAlu(t, api.OpSmod, false, -7, 2, -1, api.OK)
	wantAlu(t, api.OpSdiv, true, -7, 2, 1<<32-3, api.OK)

	wantAlu(t, api.OpDiv, false, 5, 0, 0, api.TrapDiv)
	wantAlu(t, api.OpMod, true, 5, 1<<32, 0, api.TrapDiv)
	wantAlu(t, 16, false, 5, 7, 0, api.ErrArg)
	wantAlu(t, 0, false, 5, 7, 0, api.ErrArg)

	wantAlu(t, api.OpLsh, false, 3, 65, 6, api.OK)
	wantAlu(t, api.OpLsh, true, 3, 33, 6, api.OK)
	wantAlu(t, api.OpRsh, false, -1, 60, 15, api.OK)
	wantAlu(t, api.OpArsh, false, -9, 1, -5, api.OK)
	wantAlu(t, api.OpArsh, true, 1<<31, 31, 1<<32-1, api.OK)

	wantSwap(t, 16, true, 0x1234567, 0x6745)
	wantSwap(t, 32, false, -1, 1<<32-1)
	wantSwap(t, 64, true, 1, 1<<56)
	wantSwap(t, 8, true, 1, 0)

	wantExtend(t, 8, false, 0x180, -128)
	wantExtend(t, 8, true, 0x80, 1<<32-128)
	wantExtend(t, 32, false, 1<<31, -1<<31)
	wantExtend(t, 32, true, 1, 0)

	wantHolds(t, api.OpJgt, false, -1, 1, true)
	wantHolds(t, api.OpJsgt, false, -1, 1, false)
	wantHolds(t, api.OpJeq, true, 1<<32, 0, true)
	wantHolds(t, api.OpJset, false, 6, 9, false)
	wantHolds(t, api.OpJa, false, 1, 1, false)

	wantGet(t, []byte{0xff, 0x01}, false, 511)
	wantGet(t, []byte{0xff, 0xff}, true, -1)
	wantGet(t, nil, true, 0)
	wantPut(t, 2, -2, []byte{0xfe, 0xff})
	wantPut(t, 0, 5, nil)
	wantPut(t, 9, 5, nil)
}

// TestAlu (P1.1): every operation, wide and narrow, of every two numbers.
func TestAlu(t *testing.T) {
	pairs(func(a, b int) {
		for _, op := range operations {
			for _, narrow := range both {
				want, e := 0, api.OK
				if divides(op) && low(b, width(narrow)) == 0 {
					e = api.TrapDiv
				} else {
					want = joined(op, narrow, a, b)
				}
				wantAlu(t, op, narrow, a, b, want, e)
			}
		}
	})
}

// TestAluNone (P1.1): numbers that are no operation of Alu, conditions and others among them; ErrArg comes ahead of TrapDiv.
func TestAluNone(t *testing.T) {
	for _, op := range strangers(operations) {
		for _, narrow := range both {
			for _, b := range []int{0, 1, -1, 1 << 32} {
				wantAlu(t, op, narrow, 5, b, 0, api.ErrArg)
			}
		}
	}
}

// TestAluByZero (P1.1): the four that divide know no divisor 0, narrow none whose low half is 0; all others take it.
func TestAluByZero(t *testing.T) {
	for _, a := range numbers() {
		for _, op := range operations {
			for _, b := range []int{0, 1 << 32, 7 << 32, -1 << 32, least} {
				if divides(op) {
					wantAlu(t, op, true, a, b, 0, api.TrapDiv)
				} else {
					wantAlu(t, op, true, a, b, joined(op, true, a, b), api.OK)
				}
				if b == 0 && divides(op) {
					wantAlu(t, op, false, a, b, 0, api.TrapDiv)
				} else {
					wantAlu(t, op, false, a, b, joined(op, false, a, b), api.OK)
				}
			}
		}
	}
}

// TestAluLeast (P1.1): the least number by -1.
func TestAluLeast(t *testing.T) {
	wantAlu(t, api.OpSdiv, false, least, -1, least, api.OK)
	wantAlu(t, api.OpSmod, false, least, -1, 0, api.OK)
	for _, a := range []int{1 << 31, -1 << 31, 5<<32 + 1<<31} {
		for _, b := range []int{-1, 1<<32 - 1} {
			wantAlu(t, api.OpSdiv, true, a, b, 1<<31, api.OK)
			wantAlu(t, api.OpSmod, true, a, b, 0, api.OK)
		}
	}
	wantAlu(t, api.OpDiv, false, least, -1, 0, api.OK)
	wantAlu(t, api.OpMod, false, least, -1, least, api.OK)
	wantAlu(t, api.OpDiv, true, -1<<31, -1, 0, api.OK)
	wantAlu(t, api.OpMod, true, -1<<31, -1, 1<<31, api.OK)
	wantAlu(t, api.OpSdiv, false, -1<<31, -1, 1<<31, api.OK)
}

// TestAluDistance (P1.1): a shift goes by the low 6 bits of its distance, narrow by the low 5.
func TestAluDistance(t *testing.T) {
	for _, c := range []struct {
		op         int
		narrow     bool
		a, b, want int
	}{
		{api.OpLsh, false, 1, 31, 1 << 31},
		{api.OpLsh, false, 1, 32, 1 << 32},
		{api.OpLsh, false, 1, 63, least},
		{api.OpLsh, false, 5, 64, 5},
		{api.OpLsh, false, 5, 66, 20},
		{api.OpLsh, false, 1, -1, least},
		{api.OpLsh, false, 5, 1 << 32, 5},
		{api.OpLsh, true, 1, 31, 1 << 31},
		{api.OpLsh, true, 3, 32, 3},
		{api.OpLsh, true, 3, 63, 1 << 31},
		{api.OpLsh, true, 3, 64, 3},
		{api.OpLsh, true, 3, 65, 6},
		{api.OpLsh, true, 3 << 32, 1, 0},
		{api.OpRsh, false, -1, 32, 1<<32 - 1},
		{api.OpRsh, false, -1, 63, 1},
		{api.OpRsh, false, -1, 64, -1},
		{api.OpRsh, false, -1, 127, 1},
		{api.OpRsh, true, -1, 31, 1},
		{api.OpRsh, true, -1, 32, 1<<32 - 1},
		{api.OpRsh, true, -1, 63, 1},
		{api.OpRsh, true, -1, 64, 1<<32 - 1},
		{api.OpArsh, false, least, 32, -1 << 31},
		{api.OpArsh, false, least, 63, -1},
		{api.OpArsh, false, least, 64, least},
		{api.OpArsh, false, most, 63, 0},
		{api.OpArsh, true, 1 << 31, 32, 1 << 31},
		{api.OpArsh, true, 1 << 31, 63, 1<<32 - 1},
		{api.OpArsh, true, 1 << 31, 64, 1 << 31},
		{api.OpArsh, true, 1<<31 - 1, 31, 0},
		{api.OpArsh, true, least + 8, 1, 4},
	} {
		wantAlu(t, c.op, c.narrow, c.a, c.b, c.want, api.OK)
	}
}

// TestSwap (P1.2): every size that is one, and sizes that are none.
func TestSwap(t *testing.T) {
	for _, a := range numbers() {
		for size := -130; size <= 130; size++ {
			straight, turned := 0, 0
			if size == 16 || size == 32 || size == 64 {
				straight = low(a, uint(size))
				for i := range size / 8 {
					turned |= int(byteOf(a, i)) << (size - 8 - 8*i)
				}
			}
			wantSwap(t, size, false, a, straight)
			wantSwap(t, size, true, a, turned)
		}
	}
	for _, size := range []int{least, least + 16, -1<<32 + 16, 1<<32 + 16, 1<<32 + 64, most} {
		wantSwap(t, size, false, -1, 0)
		wantSwap(t, size, true, -1, 0)
	}
	wantSwap(t, 32, true, 0x1122334455667788, 0x88776655)
	wantSwap(t, 64, true, 0x1122334455667708, 0x0877665544332211)
	wantSwap(t, 64, true, 0x80, least)
	wantSwap(t, 64, false, -3, -3)
}

// TestExtend (P1.3): every size that is one, wide and narrow, and sizes that are none.
func TestExtend(t *testing.T) {
	for _, a := range numbers() {
		for size := -130; size <= 130; size++ {
			wide, narrow := 0, 0
			if size == 8 || size == 16 || size == 32 {
				wide = told(signed(a, uint(size)))
			}
			if size == 8 || size == 16 {
				narrow = low(wide, 32)
			}
			wantExtend(t, size, false, a, wide)
			wantExtend(t, size, true, a, narrow)
		}
	}
	for _, size := range []int{least, least + 8, -1<<32 + 8, 1<<32 + 8, 1<<32 + 32, most} {
		wantExtend(t, size, false, -1, 0)
		wantExtend(t, size, true, -1, 0)
	}
	wantExtend(t, 8, false, 0x7f, 127)
	wantExtend(t, 16, false, 0x8000, -0x8000)
	wantExtend(t, 16, true, -1, 1<<32-1)
	wantExtend(t, 32, false, 1<<31-1, 1<<31-1)
}

// TestHolds (P1.4): every condition, wide and narrow, of every two numbers.
func TestHolds(t *testing.T) {
	pairs(func(a, b int) {
		for _, op := range conditions {
			for _, narrow := range both {
				wantHolds(t, op, narrow, a, b, held(op, narrow, a, b))
			}
		}
	})
}

// TestHoldsNone (P1.4): numbers that are no condition, operations among them.
func TestHoldsNone(t *testing.T) {
	for _, op := range strangers(conditions) {
		for _, narrow := range both {
			for _, a := range []int{0, 1, -1, 5} {
				for _, b := range []int{0, 1, -1, 5} {
					wantHolds(t, op, narrow, a, b, false)
				}
			}
		}
	}
}

// TestGet (P1.5): of 1 to 8 bytes a number, with and without sign; of none and of more 0.
func TestGet(t *testing.T) {
	for _, a := range numbers() {
		for n := range 20 {
			b := make([]byte, n)
			for i := range b {
				b[i] = byteOf(a, i%8)
			}
			plain, sign := 0, 0
			if 1 <= n && n <= 8 {
				plain, sign = low(a, uint(8*n)), told(signed(a, uint(8*n)))
			}
			wantGet(t, b, false, plain)
			wantGet(t, b, true, sign)
		}
	}
	wantGet(t, []byte{}, false, 0)
	wantGet(t, []byte{0x80}, false, 128)
	wantGet(t, []byte{0x80}, true, -128)
	wantGet(t, []byte{1, 2, 0x83}, true, 0x830201-1<<24)
	wantGet(t, []byte{1, 0, 0, 0, 0, 0, 0, 0x80}, false, least+1)
	wantGet(t, []byte{1, 0, 0, 0, 0, 0, 0, 0x80}, true, least+1)
	wantGet(t, bytes.Repeat([]byte{9}, 9), false, 0)
	wantGet(t, make([]byte, 1<<16+1), true, 0)
}

// TestGetLeaves (P1.5, R3): what Get is handed stays as it is, spare room too.
func TestGetLeaves(t *testing.T) {
	for n := range 12 {
		for _, sign := range both {
			room := []byte{0x81, 2, 3, 0x84, 5, 6, 7, 0x88, 9, 10, 11, 0x8c, 13}
			was := slices.Clone(room)
			word.Get(room[:n], sign)
			if !bytes.Equal(room, was) {
				t.Errorf("Get(%x, %v) left %x", was[:n], sign, room)
			}
		}
	}
}

// TestPut (P1.6): of sizes from 1 to 8 the bytes, else none.
func TestPut(t *testing.T) {
	for _, v := range numbers() {
		for size := -20; size <= 20; size++ {
			var want []byte
			if 1 <= size && size <= 8 {
				for i := range size {
					want = append(want, byteOf(v, i))
				}
			}
			wantPut(t, size, v, want)
		}
	}
	for _, size := range []int{least, least + 1, -1<<32 + 1, 1<<32 + 1, most} {
		wantPut(t, size, 5, nil)
	}
}

// TestPutFresh (P1.6, R3): each answer is new memory, spare room too.
func TestPutFresh(t *testing.T) {
	for size := 1; size <= 8; size++ {
		a, b := word.Put(size, -1), word.Put(size, -1)
		clear(a[:cap(a)])
		if want := bytes.Repeat([]byte{0xff}, size); !bytes.Equal(b, want) {
			t.Errorf("Put(%d, -1) shares memory: %x", size, b)
		}
		wantPut(t, size, -1, bytes.Repeat([]byte{0xff}, size))
	}
}

// TestThereAndBack (P1.7).
func TestThereAndBack(t *testing.T) {
	for _, v := range numbers() {
		for size := 1; size <= 8; size++ {
			b := word.Put(size, v)
			wantGet(t, b, false, low(v, uint(8*size)))
			wantGet(t, b, true, told(signed(v, uint(8*size))))
			for _, sign := range both {
				wantPut(t, len(b), word.Get(b, sign), b)
			}
		}
	}
}

// TestHalves (P1.8): what is narrow hangs on the low halves alone, and for eight operations it is the low half of what is wide.
func TestHalves(t *testing.T) {
	highs := []int{0, 1 << 32, -1 << 32, least, 0x12345678 << 32}
	same := []int{api.OpAdd, api.OpSub, api.OpMul, api.OpOr, api.OpAnd, api.OpXor, api.OpNeg, api.OpMov}
	pairs(func(a, b int) {
		for _, op := range operations {
			v, e := word.Alu(op, true, a, b)
			for _, h := range highs {
				wantAlu(t, op, true, low(a, 32)|h, b, v, e)
				wantAlu(t, op, true, a, low(b, 32)|h, v, e)
			}
		}
		for _, op := range conditions {
			v := word.Holds(op, true, a, b)
			for _, h := range highs {
				wantHolds(t, op, true, low(a, 32)|h, b, v)
				wantHolds(t, op, true, a, low(b, 32)|h, v)
			}
		}
		for _, op := range same {
			wantAlu(t, op, true, a, b, low(alu(t, op, false, a, b), 32), api.OK)
		}
	})
}

// TestDivision (P1.9): divisor times quotient and rest are the dividend, and the rest is small.
func TestDivision(t *testing.T) {
	pairs(func(a, b int) {
		for _, narrow := range both {
			k := width(narrow)
			if low(b, k) == 0 {
				continue
			}
			q := unsigned(alu(t, api.OpDiv, narrow, a, b), k)
			r := unsigned(alu(t, api.OpMod, narrow, a, b), k)
			checkDivision(t, unsigned(a, k), unsigned(b, k), q, r)
			if signed(a, k).Cmp(new(big.Int).Neg(power(k-1))) == 0 && signed(b, k).Cmp(big.NewInt(-1)) == 0 {
				continue
			}
			q = signed(alu(t, api.OpSdiv, narrow, a, b), k)
			r = signed(alu(t, api.OpSmod, narrow, a, b), k)
			checkDivision(t, signed(a, k), signed(b, k), q, r)
		}
	})
}

// checkDivision holds the quotient q and the rest r of a and b against P1.9.
func checkDivision(t *testing.T, a, b, q, r *big.Int) {
	t.Helper()
	if sum := new(big.Int).Mul(b, q); sum.Add(sum, r).Cmp(a) != 0 {
		t.Errorf("%v by %v: %v, rest %v: do not make it up", a, b, q, r)
	}
	if r.CmpAbs(b) >= 0 || r.CmpAbs(a) > 0 || r.Sign() != 0 && r.Sign() != a.Sign() {
		t.Errorf("%v by %v: the rest %v", a, b, r)
	}
}

// TestOrders (P1.10).
func TestOrders(t *testing.T) {
	pairs(func(a, b int) {
		for _, narrow := range both {
			is := func(op, a, b int) bool { return word.Holds(op, narrow, a, b) }
			for _, three := range [][]int{{api.OpJlt, api.OpJeq, api.OpJgt}, {api.OpJslt, api.OpJeq, api.OpJsgt}} {
				n := 0
				for _, op := range three {
					if is(op, a, b) {
						n++
					}
				}
				if n != 1 {
					t.Errorf("of %v, narrow %v, %d hold of %d and %d", three, narrow, n, a, b)
				}
			}
			for _, two := range [][]int{{api.OpJge, api.OpJlt}, {api.OpJle, api.OpJgt}, {api.OpJne, api.OpJeq}, {api.OpJsge, api.OpJslt}, {api.OpJsle, api.OpJsgt}} {
				if is(two[0], a, b) == is(two[1], a, b) {
					t.Errorf("%v are no opposites of %d and %d, narrow %v", two, a, b, narrow)
				}
			}
			for _, two := range [][]int{{api.OpJlt, api.OpJgt}, {api.OpJle, api.OpJge}, {api.OpJslt, api.OpJsgt}, {api.OpJsle, api.OpJsge}, {api.OpJeq, api.OpJeq}, {api.OpJne, api.OpJne}, {api.OpJset, api.OpJset}} {
				if is(two[0], a, b) != is(two[1], b, a) {
					t.Errorf("%v are no mirrors of %d and %d, narrow %v", two, a, b, narrow)
				}
			}
		}
	})
	for _, a := range numbers() {
		wantHolds(t, api.OpJset, false, a, a, a != 0)
		wantHolds(t, api.OpJset, true, a, a, low(a, 32) != 0)
	}
}
