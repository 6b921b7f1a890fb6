package span_test

import (
	"testing"

	"warrant/api"
)

// TestHalfSums (P6.6): OpAdd, OpSub, OpMul and OpNeg of low halves, whose ends just reach 2^32 - 1 and 0, and just pass them.
func TestHalfSums(t *testing.T) {
	wantAll(t, api.OpAdd, true, []try{
		{in(1, half-7), in(2, 7), in(3, half)},
		{in(1, half-7), in(2, 8), fullHalf()},
		{in(half-1, half), one(1), fullHalf()},
		{in(half-1, half), one(5), fullHalf()},
		{in(1<<32+1, 1<<32+2), in(-1<<32+3, -1<<32+9), in(4, 11)},
		{in(-9, -8), in(2, 7), in(half-6, half)},
		{in(-9, -8), in(2, 8), fullHalf()},
		{in(-1, 1), in(0, 1), fullHalf()},
		{full(), in(0, 1), fullHalf()},
		{full(), one(0), fullHalf()},
		{in(3, 4), one(1 << 32), in(3, 4)},
		{in(3, 4), one(-1), fullHalf()},
		{one(3), from(0), fullHalf()},
	})
	wantAll(t, api.OpSub, true, []try{
		{in(7, half), in(2, 7), in(0, half-2)},
		{in(7, half), in(2, 8), fullHalf()},
		{in(7, half), one(0), in(7, half)},
		{in(-9, -8), in(1, 2), in(half-10, half-8)},
		{in(1<<32+5, 1<<32+6), in(1, 2), in(3, 5)},
		{in(0, half), one(0), fullHalf()},
		{in(1, 2), in(-2, -1), fullHalf()},
		{in(1, 2), full(), fullHalf()},
	})
	wantAll(t, api.OpMul, true, []try{
		{in(2, 3), in(4, 5), in(8, 15)},
		{in(1, 1<<16+1), in(0, 1<<16-1), fullHalf()},
		{in(1, 1<<16), in(0, 1<<16-1), in(0, 1<<32-1<<16)},
		{in(1, 1<<16), in(0, 1<<16), fullHalf()},
		{in(0, 65537), one(65535), fullHalf()},
		{in(1, 3), in(5, half/3), in(5, half)},
		{in(1, 3), in(5, half/3+1), fullHalf()},
		{in(1<<32+2, 1<<32+3), in(1<<33+4, 1<<33+5), in(8, 15)},
		{in(0, half), in(0, half), fullHalf()},
		{in(0, half), in(0, 1), fullHalf()},
		{in(-3, -2), in(1, 2), fullHalf()},
		{in(-3, -2), in(0, 1), in(0, half-1)},
		{full(), one(0), one(0)},
	})
	wantAll(t, api.OpNeg, true, []try{
		{in(1, 9), full(), in(half-8, half)},
		{in(1, half), one(3), in(1, half)},
		{in(0, 9), one(3), fullHalf()},
		{in(0, half), full(), fullHalf()},
		{in(-9, -1), full(), in(1, 9)},
		{in(-9, 0), full(), fullHalf()},
		{in(1<<32, 1<<32+9), full(), fullHalf()},
		{in(1<<32+1, 1<<32+9), full(), in(half-8, half)},
		{full(), one(1), fullHalf()},
		{from(1), one(1), fullHalf()},
	})
}

// TestHalfDivisions (P6.6): those with signs are as those without, of what is below 2^31 on both sides.
func TestHalfDivisions(t *testing.T) {
	const sign = 1 << 31
	for _, op := range []int{api.OpDiv, api.OpSdiv} {
		wantAll(t, op, true, []try{
			{in(10, 20), in(2, 5), in(2, 10)},
			{in(0, sign-1), in(1, sign-1), in(0, sign-1)},
			{in(1<<32+10, 1<<32+20), in(1<<33+2, 1<<33+5), in(2, 10)},
			{in(10, 20), in(0, 5), fullHalf()},
			{in(10, 20), one(0), fullHalf()},
			{in(10, 20), one(1 << 32), fullHalf()},
			{in(10, 20), in(1<<32, 1<<32+5), fullHalf()},
			{one(7), in(2, 3), in(2, 3)},
		})
	}
	wantAll(t, api.OpDiv, true, []try{
		{in(0, sign), in(2, 5), in(0, sign/2)},
		{in(-9, -8), in(2, 5), in((half-8)/5, (half-7)/2)},
		{in(10, 20), in(1, sign), in(0, 20)},
		{full(), in(3, 4), in(0, half/3)},
		{in(10, 20), in(-3, -2), in(0, 0)},
	})
	wantAll(t, api.OpSdiv, true, []try{
		{in(0, sign), in(2, 5), fullHalf()},
		{in(sign-1, sign), in(2, 5), fullHalf()},
		{in(10, 20), in(1, sign), fullHalf()},
		{in(-9, -8), in(2, 5), fullHalf()},
		{in(8, 9), in(-5, -2), fullHalf()},
		{full(), in(3, 4), fullHalf()},
		{in(sign-2, sign-1), one(2), in(sign/2-1, sign/2-1)},
	})
	for _, op := range []int{api.OpMod, api.OpSmod} {
		wantAll(t, op, true, []try{
			{in(3, 7), in(8, 9), in(3, 7)},
			{in(3, 8), in(8, 9), in(0, 8)},
			{in(3, 30), in(8, 9), in(0, 8)},
			{in(3, 30), in(1, 5), in(0, 4)},
			{in(3, 30), in(0, 5), fullHalf()},
			{in(3, 30), one(1 << 32), fullHalf()},
			{in(0, sign-1), in(1, sign-1), in(0, sign-2)},
			{in(1<<32+3, 1<<32+7), in(1<<33+8, 1<<33+9), in(3, 7)},
		})
	}
	wantAll(t, api.OpMod, true, []try{
		{in(0, sign), in(2, 5), in(0, 4)},
		{in(-9, -8), in(2, 5), in(0, 4)},
		{full(), in(1, 8), in(0, 7)},
		{in(3, 7), in(-9, -8), in(3, 7)},
		{in(3, 7), in(8, sign), in(3, 7)},
	})
	wantAll(t, api.OpSmod, true, []try{
		{in(0, sign), in(2, 5), fullHalf()},
		{in(-9, -8), in(2, 5), fullHalf()},
		{full(), in(1, 8), fullHalf()},
		{in(3, 7), in(-9, -8), fullHalf()},
		{in(3, 7), in(8, sign), fullHalf()},
		{in(3, 7), in(8, sign-1), in(3, 7)},
	})
}

// TestHalfBits (P6.6): of low halves nothing is below 0, so the first row is the one.
func TestHalfBits(t *testing.T) {
	wantAll(t, api.OpAnd, true, []try{
		{in(3, 9), in(5, 7), in(0, 7)},
		{in(3, 9), in(-5, -2), in(0, 9)},
		{in(-9, -3), in(-8, -2), in(0, half-2)},
		{full(), one(7), in(0, 7)},
		{one(1<<32 + 7), full(), in(0, 7)},
		{full(), one(-1), fullHalf()},
	})
	wantAll(t, api.OpOr, true, []try{
		{in(1, 4), in(2, 3), in(2, 7)},
		{in(1, 4), in(-3, -2), in(half-2, half)},
		{in(1<<32+1, 1<<32+4), in(2, 3), in(2, 7)},
		{in(0, 1<<31-1), in(0, 1), in(0, 1<<31-1)},
		{in(0, 1<<31), in(0, 1), fullHalf()},
		{full(), one(5), in(5, half)},
		{full(), full(), fullHalf()},
	})
	wantAll(t, api.OpXor, true, []try{
		{in(5, 6), in(1, 2), in(0, 7)},
		{in(5, 8), in(1, 2), in(0, 15)},
		{in(1<<32+5, 1<<32+6), in(-1<<32+1, -1<<32+2), in(0, 7)},
		{in(-3, -2), in(1, 2), fullHalf()},
		{full(), full(), fullHalf()},
	})
}

// TestHalfShifts (P6.6): counts are modulo 32 where b is single as it was handed in, and within 31 of its low half.
func TestHalfShifts(t *testing.T) {
	wantAll(t, api.OpLsh, true, []try{
		{in(3, 5), one(2), in(12, 20)},
		{in(3, 5), one(34), in(12, 20)},
		{in(3, 5), one(66), in(12, 20)},
		{in(3, 5), one(-30), in(12, 20)},
		{in(3, 5), one(32), in(3, 5)},
		{in(3, 5), one(1<<32 + 2), in(12, 20)},
		{in(3, 5), in(1, 2), in(6, 20)},
		{in(3, 5), in(1<<32+1, 1<<32+2), in(6, 20)},
		{in(3, 5), in(-1, 2), fullHalf()},
		{in(0, 1), in(0, 31), in(0, 1<<31)},
		{in(0, 1), in(0, 32), in(0, 1<<31)},
		{in(0, 1), full(), in(0, 1<<31)},
		{in(0, 1), in(1, 31), in(0, 1<<31)},
		{in(1, 2), in(1, 31), fullHalf()},
		{in(1, 2), in(1, 30), in(2, 1<<31)},
		{in(1, 2), in(33, 34), fullHalf()},
		{in(1, half>>4), one(4), in(16, half-15)},
		{in(1, half>>4+1), one(4), fullHalf()},
		{in(0, half), one(32), fullHalf()},
		{in(0, half), in(0, 31), fullHalf()},
		{in(-3, -2), one(0), in(half-2, half-1)},
		{in(-3, -2), one(1), fullHalf()},
		{in(1<<32+3, 1<<32+5), one(2), in(12, 20)},
		{one(0), in(0, 5), in(0, 0)},
	})
	wantAll(t, api.OpRsh, true, []try{
		{in(9, 100), one(2), in(2, 25)},
		{in(9, 100), one(34), in(2, 25)},
		{in(9, 100), one(-30), in(2, 25)},
		{in(9, 100), in(1, 3), in(1, 50)},
		{in(9, 100), in(1, 31), in(0, 50)},
		{in(9, 100), in(1, 32), in(0, 100)},
		{in(9, 100), in(32, 33), in(0, 100)},
		{in(9, 100), in(1<<32+1, 1<<32+3), in(1, 50)},
		{full(), one(1), in(0, 1<<31-1)},
		{full(), one(60), in(0, 15)},
		{in(-16, -1), one(4), in(1<<28-1, 1<<28-1)},
		{full(), in(-1, 5), fullHalf()},
	})
	wantAll(t, api.OpArsh, true, []try{
		{in(9, 100), one(2), in(2, 25)},
		{in(9, 100), in(1, 3), in(1, 50)},
		{in(9, 100), in(1, 32), in(0, 100)},
		{in(9, 100), one(35), in(1, 12)},
		{in(0, 1<<31-1), one(1), in(0, 1<<30-1)},
		{in(0, 1<<31), one(1), fullHalf()},
		{in(-9, -8), one(1), fullHalf()},
		{full(), one(1), fullHalf()},
		{in(1<<32+9, 1<<32+100), one(2), in(2, 25)},
	})
}
