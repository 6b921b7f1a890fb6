package help_test

import (
	"bytes"
	"slices"
	"sync"
	"testing"

	"warrant/api"
	"warrant/help"
)

// TestSigAnswered (R3, R4): what a caller writes into an answer, its spare room too, touches no other one, told ahead of it or behind it.
func TestSigAnswered(t *testing.T) {
	l := signed()
	for n := range l {
		var ahead []api.Sig
		for id := 1; id <= 2*len(l); id++ {
			s, _ := help.Sig((id-1)%len(l) + 1)
			ahead = append(ahead, s)
		}
		args := ahead[n].Args[:cap(ahead[n].Args)]
		for i := range args {
			args[i] = -77
		}
		for m, s := range ahead {
			if m != n && !slices.Equal(s.Args, l[m%len(l)].Args) {
				t.Fatalf("the answer for %d was touched by what was written into one for %d", m%len(l)+1, n+1)
			}
		}
		for m, want := range l {
			wantSig(t, m+1, want, true)
		}
	}
}

// room is a piece in the midst of a list, with other bytes ahead of it and spare room behind.
type room struct{ whole, piece, was []byte }

func roomFor(b []byte, around byte) room {
	whole := slices.Concat(slices.Repeat(of(around), 9), b, slices.Repeat(of(around), 13))
	return room{whole, whole[9 : 9+len(b)], slices.Clone(whole)}
}

// wantRead: the whole list reads as before.
func (r room) wantRead(t *testing.T, what string) {
	t.Helper()
	if !bytes.Equal(r.whole, r.was) {
		t.Fatalf("%s changed %s, or what stands around it", what, told(r.piece))
	}
}

// TestHandedIn (R3): pieces read as before behind each call, their spare room too, and what stands there counts for nothing.
func TestHandedIn(t *testing.T) {
	d := rolling(14)
	for _, around := range of(0, 1, 0xa5, 255) {
		for n := range 300 {
			size := n % 50
			if n%60 == 59 {
				size = api.MaxSpan
			}
			b, c := d.piece(size), d.number()
			r, s := roomFor(b, around), roomFor(b, 255-around)
			half := size / 2
			wantSum(t, r.piece, c, summed(b, c))
			r.wantRead(t, "Sum")
			wantSum(t, r.piece[:half], c, summed(b[:half], c))
			r.wantRead(t, "Sum")
			wantFind(t, r.piece, c, found(b, c))
			r.wantRead(t, "Find")
			wantFind(t, r.piece, int(around), found(b, int(around)))
			r.wantRead(t, "Find")
			wantDiff(t, r.piece, s.piece, 0)
			wantDiff(t, r.piece, s.piece[:half], compared(b, b[:half]))
			r.wantRead(t, "Diff")
			s.wantRead(t, "Diff")
			wantDiff(t, r.piece[:half], s.piece, compared(b[:half], b))
			r.wantRead(t, "Diff")
			s.wantRead(t, "Diff")
		}
	}
}

// TestNotKept (R3, R4): a list whose bytes are others at the next call is another list.
func TestNotKept(t *testing.T) {
	d := rolling(15)
	for range 200 {
		a, b := d.piece(30), d.piece(30)
		for range 20 {
			a[d.Intn(30)], b[d.Intn(30)] = byte(d.Intn(256)), byte(d.Intn(256))
			size, c := d.Intn(31), d.Intn(256)
			wantSum(t, a[:size], 5, summed(a[:size], 5))
			wantSum(t, a, 5, summed(a, 5))
			wantFind(t, a, c, found(a, c))
			wantDiff(t, a, b, compared(a, b))
			wantDiff(t, a[:size], b, compared(a[:size], b))
			copy(b, a)
			wantDiff(t, a, b, 0)
		}
	}
}

// TestShared (R3): two pieces of one list.
func TestShared(t *testing.T) {
	d := rolling(16)
	b := d.piece(60)
	for from := range 61 {
		for to := from; to <= 60; to++ {
			wantDiff(t, b[from:to], b, compared(b[from:to], b))
			wantDiff(t, b, b[from:to], compared(b, b[from:to]))
			wantDiff(t, b[from:to], b[:to-from], compared(b[from:to], b[:to-from]))
			wantDiff(t, b[from:to], b[from:to], 0)
		}
	}
}

// TestNothing (R3): nil and an empty list are one.
func TestNothing(t *testing.T) {
	spare := append(make([]byte, 0, 9), 7)[:0]
	for _, b := range [][]byte{nil, {}, spare} {
		wantSum(t, b, 65541, 5)
		wantFind(t, b, 7, -1)
		wantFind(t, b, 0, -1)
		for _, a := range [][]byte{nil, {}, spare} {
			wantDiff(t, a, b, 0)
		}
		wantDiff(t, b, of(0), -1)
		wantDiff(t, of(0), b, 1)
	}
}

// TestAnything (R1): each call ends, and does not panic, at whatever it is handed.
func TestAnything(t *testing.T) {
	d := rolling(17)
	l := numbers()
	pieces := [][]byte{nil, {}, of(0), of(255), d.piece(1 << 22), d.piece(1<<22 + 1)}
	for range 30 {
		pieces = append(pieces, d.piece(d.Intn(70)))
	}
	for _, v := range append(l, strangers()...) {
		help.Sig(v)
		b := pieces[2+d.Intn(len(pieces)-2)][:1]
		for _, w := range []int{v, -v, ^v, d.number()} {
			help.Mix(v, w)
			wantSum(t, b, w, summed(b, w))
			wantFind(t, b, w, found(b, w))
		}
	}
	for _, a := range pieces {
		seed := l[d.Intn(len(l))]
		wantSum(t, a, seed, summed(a, seed))
		wantFind(t, a, seed, found(a, seed))
		for _, b := range pieces {
			wantDiff(t, a, b, compared(a, b))
		}
	}
}

// TestSideBySide (R4): calls side by side answer the same.
func TestSideBySide(t *testing.T) {
	want := answers()
	wrong := make([]bool, 8)
	var all sync.WaitGroup
	for n := range wrong {
		all.Go(func() {
			for range 40 {
				wrong[n] = wrong[n] || !slices.Equal(answers(), want)
			}
		})
	}
	all.Wait()
	if slices.Contains(wrong, true) {
		t.Fatal("calls side by side answer otherwise")
	}
}

// answers are those of many calls.
func answers() []int {
	var l []int
	d := rolling(18)
	for n := range 60 {
		a, b, v := d.piece(d.Intn(40)), d.piece(d.Intn(40)), d.number()
		l = append(l, help.Sum(a, v), help.Diff(a, b), help.Find(b, v), help.Mix(n, v))
		s, is := help.Sig(n % 11)
		if is {
			l = append(l, s.Args...)
			l = append(l, s.Ret.Lo, s.Ret.Hi)
		}
	}
	return l
}
