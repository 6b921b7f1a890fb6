package help_test

import (
	"math"
	"slices"
	"testing"

	"warrant/api"
	"warrant/help"
)

func wantSig(t *testing.T, id int, want api.Sig, is bool) {
	t.Helper()
	got, there := help.Sig(id)
	if there != is || !slices.Equal(got.Args, want.Args) || got.Ret != want.Ret {
		t.Errorf("Sig(%d) = %+v, %v; want %+v, %v", id, got, there, want, is)
	}
}

func wantSum(t *testing.T, b []byte, seed, want int) {
	t.Helper()
	if got := help.Sum(b, seed); got != want {
		t.Errorf("Sum(%s, %d) = %d; want %d", told(b), seed, got, want)
	}
}

func wantDiff(t *testing.T, a, b []byte, want int) {
	t.Helper()
	if got := help.Diff(a, b); got != want {
		t.Errorf("Diff(%s, %s) = %d; want %d", told(a), told(b), got, want)
	}
}

func wantFind(t *testing.T, b []byte, c, want int) {
	t.Helper()
	if got := help.Find(b, c); got != want {
		t.Errorf("Find(%s, %d) = %d; want %d", told(b), c, got, want)
	}
}

func wantMix(t *testing.T, x, y, want int) {
	t.Helper()
	if got := help.Mix(x, y); got != want {
		t.Errorf("Mix(%d, %d) = %d; want %d", x, y, got, want)
	}
}

// TestExamples: every row of the chapter's section Examples.
func TestExamples(t *testing.T) {
	wantSum(t, nil, 0, 0)
	wantSum(t, of(1, 2), 0, 258)
	wantSum(t, of(0xff, 0xff, 0, 1), 0, 1)
	wantSum(t, of(0xff, 0xff), 0, 65535)
	wantSum(t, of(0x80), 65535, 32768)
	wantSum(t, nil, -1, 65535)
	wantDiff(t, of(1), of(1, 0), -1)
	wantDiff(t, of(2), of(1, 9), 1)
	wantFind(t, of(5, 6, 5), 261, 0)
	wantFind(t, of(5), 6, -1)
	wantMix(t, 0, 0, 0)
	wantSig(t, 0, api.Sig{}, false)
	wantSig(t, 2, api.Sig{Args: []int{api.ArgWrite, api.ArgRead, api.ArgLen, api.ArgNone, api.ArgNone}, Ret: api.Span{Lo: 0, Hi: 0}}, true)
}

// signed is the chapter's table (P7.1): of the id n its row n - 1.
func signed() []api.Sig {
	const none, num, length, read, write = api.ArgNone, api.ArgNum, api.ArgLen, api.ArgRead, api.ArgWrite
	row := func(ret api.Span, args ...int) api.Sig { return api.Sig{Args: args, Ret: ret} }
	in := func(lo, hi int) api.Span { return api.Span{Lo: lo, Hi: hi} }
	return []api.Sig{
		row(in(0, 65535), read, length, num, none, none),
		row(in(0, 0), write, read, length, none, none),
		row(in(0, 0), write, num, length, none, none),
		row(in(-1, 1), read, read, length, none, none),
		row(in(-1, 65534), read, length, num, none, none),
		row(in(-1, 0), num, none, none, none, none),
		row(in(0, 0), num, num, none, none, none),
		row(api.Span{NoLo: true, NoHi: true}, num, num, none, none, none),
	}
}

// TestSig (P7.1): each field of every helper.
func TestSig(t *testing.T) {
	for n, want := range signed() {
		id := n + 1
		wantSig(t, id, want, true)
		got, _ := help.Sig(id)
		if len(got.Args) != 5 {
			t.Fatalf("Sig(%d) has %d Args", id, len(got.Args))
		}
		for i, arg := range got.Args {
			if arg != want.Args[i] {
				t.Errorf("Sig(%d), r%d: %d; want %d", id, i+1, arg, want.Args[i])
			}
		}
	}
}

// TestSigNames (P7.1): the table's rows stand under the names that api has for them.
func TestSigNames(t *testing.T) {
	l := signed()
	for n, id := range []int{api.HelpSum, api.HelpCopy, api.HelpFill, api.HelpDiff, api.HelpFind, api.HelpEmit, api.HelpRow, api.HelpMix} {
		wantSig(t, id, l[n], true)
	}
}

// strangers are numbers that no helper has, some of them with the low bits of one that has.
func strangers() []int {
	l := []int{0, 9, -1, least, most}
	for id := -300; id <= 600; id++ {
		if id < 1 || id > 8 {
			l = append(l, id)
		}
	}
	for id := 1; id <= 8; id++ {
		for k := 4; k < 64; k++ {
			l = append(l, id+1<<k, id-1<<k)
		}
		l = append(l, ^id, -id, most-id, least+id)
	}
	return l
}

// TestSigNone (P7.1): of another id the zero Sig and false.
func TestSigNone(t *testing.T) {
	for _, id := range strangers() {
		got, is := help.Sig(id)
		if is || len(got.Args) != 0 || got.Ret != (api.Span{}) {
			t.Errorf("Sig(%d) = %+v, %v", id, got, is)
		}
	}
}

// TestSum (P7.2): nothing, a byte, odd and even numbers of bytes.
func TestSum(t *testing.T) {
	wantSum(t, of(0), 0, 0)
	wantSum(t, of(1), 0, 256)
	wantSum(t, of(0xff), 0, 65280)
	wantSum(t, of(0, 1), 0, 1)
	wantSum(t, of(1, 0), 0, 256)
	wantSum(t, of(0xfe, 0xdc), 0, 0xfedc)
	wantSum(t, of(1, 2, 3), 0, 258+768)
	wantSum(t, of(1, 2, 3, 0), 0, 258+768)
	wantSum(t, of(1, 2, 3, 4), 0, 258+772)
	wantSum(t, of(1, 2, 3, 4, 5), 0, 258+772+1280)
	wantSum(t, of(0, 0, 0, 0, 7), 0, 7*256)
}

// TestSumSeeds (P7.2): the sum begins with the low 16 bits of the seed, and with nothing of the others.
func TestSumSeeds(t *testing.T) {
	for _, c := range []struct{ seed, begins int }{
		{0, 0}, {1, 1}, {65534, 65534}, {65535, 65535}, {65536, 0}, {65537, 1}, {0x12345, 0x2345}, {0xffff0000, 0}, {1<<32 + 9, 9}, {1<<40 - 1, 65535},
		{-1, 65535}, {-2, 65534}, {-65535, 1}, {-65536, 0}, {-65537, 65535}, {-1 << 40, 0}, {least, 0}, {least + 5, 5}, {most, 65535}, {most - 3, 65532},
	} {
		wantSum(t, nil, c.seed, c.begins)
		wantSum(t, of(0), c.seed, c.begins)
		wantSum(t, of(0, 0), c.seed, c.begins)
		word, want := of(0x12, 0x34), c.begins+0x1234
		if want > 65535 {
			want -= 65535
		}
		wantSum(t, word, c.seed, want)
	}
}

// TestSumEnds (P7.2): sums that just reach 65535 stay, those that just pass it are taken less 65535, each time anew.
func TestSumEnds(t *testing.T) {
	wantSum(t, of(0xff, 0xfe), 1, 65535)
	wantSum(t, of(0xff, 0xff), 1, 1)
	wantSum(t, of(0xff, 0xfe), 2, 1)
	wantSum(t, of(0xff), 255, 65535)
	wantSum(t, of(0xff), 256, 1)
	wantSum(t, of(0, 1), 65534, 65535)
	wantSum(t, of(0, 1), 65535, 1)
	wantSum(t, of(0xff, 0xff), 65535, 65535)
	wantSum(t, of(0, 0), 65535, 65535)
	wantSum(t, of(0x80, 0, 0x80, 0), 0, 1)
	wantSum(t, of(0x80, 0, 0x80, 0, 0x80, 0, 0x80, 0), 0, 2)
	wantSum(t, of(0xff, 0xff, 0xff, 0xff, 0xff, 0xff, 0xff, 0xff), 0, 65535)
	wantSum(t, of(0xff, 0xff, 0xff, 0xff, 0xff, 0xff, 0xff), 3, 65283)
	wantSum(t, of(0xff, 0xfe, 0, 1, 0, 1, 0xff, 0xfe, 0, 1), 0, 1)
}

// TestDiff (P7.3): the first place with unlike bytes, then the lengths; bytes have no sign.
func TestDiff(t *testing.T) {
	wantDiff(t, nil, nil, 0)
	wantDiff(t, nil, of(), 0)
	wantDiff(t, of(7), of(7), 0)
	wantDiff(t, of(7, 0, 255), of(7, 0, 255), 0)
	wantDiff(t, nil, of(0), -1)
	wantDiff(t, of(0), nil, 1)
	wantDiff(t, of(7, 0, 255), of(7, 0), 1)
	wantDiff(t, of(7, 0), of(7, 0, 255), -1)
	wantDiff(t, of(255, 255), of(255, 255, 0), -1)

	wantDiff(t, of(1, 9, 9), of(2, 0, 0), -1)
	wantDiff(t, of(2, 0, 0), of(1, 9, 9), 1)
	wantDiff(t, of(5, 1, 9), of(5, 2, 0), -1)
	wantDiff(t, of(5, 2, 0), of(5, 1, 9), 1)
	wantDiff(t, of(5, 5, 1), of(5, 5, 3), -1)
	wantDiff(t, of(5, 5, 3), of(5, 5, 1), 1)
	wantDiff(t, of(1, 2, 3, 4), of(2), -1)
	wantDiff(t, of(2), of(1, 2, 3, 4), 1)

	wantDiff(t, of(128), of(127), 1)
	wantDiff(t, of(127), of(128), -1)
	wantDiff(t, of(255), of(0), 1)
	wantDiff(t, of(0), of(255), -1)
	wantDiff(t, of(1, 200, 0), of(1, 100, 0), 1)
	wantDiff(t, of(255), of(128), 1)
}

// TestFind (P7.4): a byte that stands there once, twice, not at all, in nothing.
func TestFind(t *testing.T) {
	wantFind(t, nil, 0, -1)
	wantFind(t, of(), 5, -1)
	wantFind(t, of(0), 0, 0)
	wantFind(t, of(1, 2, 3), 1, 0)
	wantFind(t, of(1, 2, 3), 2, 1)
	wantFind(t, of(1, 2, 3), 3, 2)
	wantFind(t, of(1, 2, 3), 4, -1)
	wantFind(t, of(1, 2, 3), 0, -1)
	wantFind(t, of(1, 2, 3, 2), 2, 1)
	wantFind(t, of(9, 255, 0, 255), 255, 1)
	wantFind(t, of(127, 128), 128, 1)
}

// TestFindLow (P7.4): the low 8 bits of the number count, and no other ones.
func TestFindLow(t *testing.T) {
	b := of(9, 255, 0, 5, 128)
	for _, c := range []struct{ number, place int }{
		{256, 2}, {257, -1}, {261, 3}, {511, 1}, {65536, 2}, {1<<32 + 5, 3}, {1<<40 + 128, 4},
		{-1, 1}, {-256, 2}, {-247, 0}, {-251, 3}, {-128, 4}, {-127, -1}, {-1<<32 + 9, 0}, {least, 2}, {least + 5, 3}, {most, 1}, {most - 127, 4},
	} {
		wantFind(t, b, c.number, c.place)
		wantFind(t, nil, c.number, -1)
	}
}

// TestMix (P7.5): numbers that were reckoned elsewhere.
func TestMix(t *testing.T) {
	wantMix(t, 1, 0, -8126062106303931972)
	wantMix(t, 0, 1, 6695827960422658261)
	wantMix(t, 1, 1, -1430234144346167142)
	wantMix(t, 3, 7, 5773753997762736895)
	wantMix(t, 7, 3, 2259290006132803443)
	wantMix(t, -1, 0, -3331996763853529448)
	wantMix(t, 0, -1, 3017398725269361954)
	wantMix(t, -1, -1, -1430234144346167142)
	wantMix(t, least, 0, 1665998384074248372)
	wantMix(t, 0, least, 1665998384074248372)
	wantMix(t, most, 0, -1665998379779281076)
	wantMix(t, 0, most, 4683397108265690590)
	wantMix(t, least, most, 3017398725269361954)
	wantMix(t, most, least, -3331996763853529448)
	wantMix(t, 1<<32, 0, 6889136048725983700)
	wantMix(t, 1<<29, 1<<32, -7841614531803082620)
	wantMix(t, 0x1122334455667788, -0x1122334455667788, 654399011320005939)
}

const least, most = math.MinInt, math.MaxInt
