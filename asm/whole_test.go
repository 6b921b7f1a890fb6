package asm_test

import (
	"math"
	"math/rand"
	"slices"
	"strconv"
	"strings"
	"testing"

	"warrant/api"
	"warrant/asm"
	"warrant/code"
)

// list is a number of instructions of every form, the same ones for the same seed; some of the jumps lead to near units.
func list(r *rand.Rand, all []said, n int) []api.Ins {
	jumps := len(all) - slices.IndexFunc(all, func(s said) bool { return s.ins.Op >= api.OpJa })
	var l []api.Ins
	for range n {
		s := all[r.Intn(len(all))]
		if r.Intn(3) == 0 {
			s = all[len(all)-1-r.Intn(jumps)]
		}
		i := s.ins
		to := r.Intn(2*n+3) - n - 1
		switch {
		case r.Intn(4) == 0 || i.Op < api.OpJa || i.Op > api.OpJset:
		case i.Op == api.OpJa && i.Narrow:
			i.Imm = to
		default:
			i.Off = to
		}
		l = append(l, i)
	}
	return l
}

// texts are a text a line.
func texts(l []api.Ins) []string {
	var all []string
	for _, i := range l {
		all = append(all, spelling(i))
	}
	return all
}

// TestMaxText (P3.1): MaxText bytes, and one more, which is refused ahead of all else.
func TestMaxText(t *testing.T) {
	for _, c := range []struct {
		text string
		l    []api.Ins
	}{
		{" ", nil}, {"\n", nil}, {"\r", nil}, {";", nil}, {";\xff", nil},
		{"exit", []api.Ins{{Op: api.OpExit}}},
	} {
		text := c.text + strings.Repeat(c.text[len(c.text)-1:], api.MaxText-len(c.text))
		if c.l != nil {
			text = c.text + strings.Repeat(" ", api.MaxText-len(c.text))
		}
		wantParse(t, text, c.l)
		wantRefused(t, text+" ", 0, api.ErrLong)
		wantRefused(t, text+"\n", 0, api.ErrLong)
	}
	wantParse(t, strings.Repeat("a", api.MaxText-1)+":", nil)
	wantRefused(t, strings.Repeat("?", api.MaxText), 1, api.ErrWord)
	wantRefused(t, strings.Repeat("?", api.MaxText+1), 0, api.ErrLong)
	wantRefused(t, "x\n"+strings.Repeat(" ", api.MaxText-1), 0, api.ErrLong)
	wantRefused(t, times("exit", api.MaxIns+1)+strings.Repeat(" ", api.MaxText), 0, api.ErrLong)
}

// TestMaxIns (P3.1, P3.3): MaxIns instructions, and one more.
func TestMaxIns(t *testing.T) {
	full := slices.Repeat([]api.Ins{{Op: api.OpExit}}, api.MaxIns)
	text := times("exit", api.MaxIns)
	wantParse(t, text, full)
	wantParse(t, text+"\n;\na: b:\n", full)
	wantPrint(t, full, text)
	wantRefused(t, text+"exit", api.MaxIns+1, api.ErrLong)
	wantRefused(t, text+"\n; one more\na: exit", api.MaxIns+3, api.ErrLong)
	wantUnprinted(t, append(full, api.Ins{Op: api.OpExit}), api.MaxIns, api.ErrMany)
	wantUnprinted(t, append(full, api.Ins{}), api.MaxIns, api.ErrMany)
	wantUnprinted(t, append(full[:7:7], api.Ins{Op: api.OpMov, Dst: 10}), 7, api.ErrReg)
}

// TestGreatest (P3.1, P3.3): MaxIns instructions of two units, with a jump over all of them each way; and the longest text that Print gives.
func TestGreatest(t *testing.T) {
	wide := api.Ins{Op: api.OpWide, Dst: 3, Imm: 5}
	l := slices.Concat([]api.Ins{{Op: api.OpJa, Off: 8189}}, slices.Repeat([]api.Ins{wide}, api.MaxIns-2), []api.Ins{{Op: api.OpJeq, Narrow: true, Off: -8190}})
	text := "b: goto far e\n" + times("r3 = wide 5", api.MaxIns-2) + "if w0 == 0 goto b\ne:\n"
	l[0] = api.Ins{Op: api.OpJa, Narrow: true, Imm: 8189}
	wantParse(t, text, l)
	l[0] = api.Ins{Op: api.OpJa, Off: 8189}
	wantParse(t, strings.Replace(text, "far e", "e", 1), l)
	wantPrint(t, l, "L0:\ngoto +8189\n"+times("r3 = wide 5", api.MaxIns-2)+"if w0 == 0 goto L0\n")

	var long []api.Ins
	for n := range api.MaxIns {
		long = append(long, api.Ins{Op: api.OpJsge, Dst: 10, Imm: -1 << 31, Off: api.MaxIns - 2 - 2*n})
	}
	wantPrint(t, long, printed(long))
	wantParse(t, printed(long), long)
}

// TestLabels (P3.1): what labels stand for, and which words they may be.
func TestLabels(t *testing.T) {
	exit, wide, data := api.Ins{Op: api.OpExit}, api.Ins{Op: api.OpWide, Dst: 1, Imm: 1}, api.Ins{Op: api.OpData, Dst: 1, Imm: 1}
	ja := func(off int) api.Ins { return api.Ins{Op: api.OpJa, Off: off} }
	jeq := func(off int) api.Ins { return api.Ins{Op: api.OpJeq, Dst: 1, Off: off} }
	// Several ahead of one instruction, in one line and in more.
	wantParse(t, lines("a: b: goto a", "c:", "", "; d:", "d :e:f: goto b", "goto c", "goto d", "goto e", "goto f"), []api.Ins{ja(-1), ja(-2), ja(-2), ja(-3), ja(-4), ja(-5)})
	// Behind the last instruction.
	wantParse(t, lines("goto x", "if r1 == 0 goto y", "goto far z", "x: y:", "z:"), []api.Ins{ja(2), jeq(1), {Op: api.OpJa, Narrow: true}})
	// Forward and back over instructions of two units.
	wantParse(t, lines("a: r1 = wide 1", "b: if r1 == 0 goto d", "r1 = data 1", "c: r1 = wide 1", "d: goto a", "goto b", "goto c", "if r1 == 0 goto fin", "r1 = wide 1", "fin:"),
		[]api.Ins{wide, jeq(4), data, wide, ja(-8), ja(-7), ja(-5), jeq(2), wide})
	// To itself, and on to the next one.
	wantParse(t, lines("a: if r1 == 0 goto a", "if r1 == 0 goto b", "b: exit"), []api.Ins{jeq(-1), jeq(0), exit})
	// Words that stand in instructions are labels too.
	for _, w := range []string{"r1", "w1", "exit", "goto", "if", "far", "s", "u8", "s8", "lock", "wide", "data", "call", "le16", "_", "__9", "L0", "Aa_0", "x0x", strings.Repeat("long", 1000)} {
		wantParse(t, lines(w+": goto "+w, "if r1 == 0 goto "+w, "goto far "+w), []api.Ins{ja(-1), jeq(-2), {Op: api.OpJa, Narrow: true, Imm: -3}})
		wantRefused(t, lines(w+":", "exit", w+" : exit"), 3, api.ErrTwice)
		wantRefused(t, lines("exit", "b: "+w+": c: "+w+": exit"), 2, api.ErrTwice)
	}
	// In goto far with nothing behind it far is a label.
	wantParse(t, "far: goto far", []api.Ins{ja(-1)})
	wantParse(t, "far: goto far far", []api.Ins{{Op: api.OpJa, Narrow: true, Imm: -1}})
	wantParse(t, "goto far +1", []api.Ins{{Op: api.OpJa, Narrow: true, Imm: 1}})
	// Capital letters are others.
	wantParse(t, lines("a: A: goto A", "B: b: goto b"), []api.Ins{ja(-1), ja(-1)})
	wantRefused(t, "a: a: exit", 1, api.ErrTwice)
	wantRefused(t, "a:\na:", 2, api.ErrTwice)
}

// TestPrint (P3.3): which jumps get labels, and where those stand.
func TestPrint(t *testing.T) {
	exit, wide := api.Ins{Op: api.OpExit}, api.Ins{Op: api.OpWide, Dst: 1, Imm: 1}
	ja := func(off int) api.Ins { return api.Ins{Op: api.OpJa, Off: off} }
	wantPrint(t, nil, "")
	wantPrint(t, []api.Ins{exit}, "exit\n")
	// The labels are numbered as the instructions stand, not as the jumps do.
	wantPrint(t, []api.Ins{ja(2), ja(0), exit, exit}, "goto L1\ngoto L0\nL0:\nexit\nL1:\nexit\n")
	// Two jumps to one instruction have one label; an instruction may lead to itself.
	wantPrint(t, []api.Ins{ja(-1), {Op: api.OpJset, Dst: 10, Reg: true, Src: 9, Off: -2}, {Op: api.OpJa, Narrow: true, Imm: -3}}, "L0:\ngoto L0\nif r10 & r9 goto L0\ngoto far L0\n")
	// Over two units, between the two of one, and out of the list at both ends.
	wantPrint(t, []api.Ins{ja(2), wide, exit}, "goto L0\nr1 = wide 1\nL0:\nexit\n")
	wantPrint(t, []api.Ins{ja(0), wide, exit}, "goto L0\nL0:\nr1 = wide 1\nexit\n")
	wantPrint(t, []api.Ins{ja(1), wide, exit}, "goto +1\nr1 = wide 1\nexit\n")
	wantPrint(t, []api.Ins{ja(3), wide, exit}, "goto +3\nr1 = wide 1\nexit\n")
	wantPrint(t, []api.Ins{ja(4), wide, exit}, "goto +4\nr1 = wide 1\nexit\n")
	wantPrint(t, []api.Ins{wide, {Op: api.OpJne, Dst: 1, Imm: -7, Off: -2}}, "r1 = wide 1\nif r1 != -7 goto -2\n")
	wantPrint(t, []api.Ins{wide, {Op: api.OpJne, Dst: 1, Imm: -7, Off: -3}}, "L0:\nr1 = wide 1\nif r1 != -7 goto L0\n")
	wantPrint(t, []api.Ins{wide, {Op: api.OpJne, Dst: 1, Imm: -7, Off: -4}}, "r1 = wide 1\nif r1 != -7 goto -4\n")
	wantPrint(t, []api.Ins{wide, {Op: api.OpData, Dst: 2, Imm: 3}}, "r1 = wide 1\nr2 = data 3\n")
	wantPrint(t, []api.Ins{ja(32767), ja(-32768), {Op: api.OpJa, Narrow: true, Imm: 1<<31 - 1}, {Op: api.OpJa, Narrow: true, Imm: -1 << 31}}, "goto +32767\ngoto -32768\ngoto far +2147483647\ngoto far -2147483648\n")
	// A jump to the last instruction has a label; one behind it has none; no other instruction's Off or Imm leads anywhere.
	wantPrint(t, []api.Ins{ja(1), ja(1), exit}, "goto L0\ngoto +1\nL0:\nexit\n")
	wantPrint(t, []api.Ins{{Op: api.OpLoad, Size: 1, Dst: 1, Src: 2, Off: 1}, {Op: api.OpCall, Imm: 0}, exit}, "r1 = u8 [r2 + 1]\ncall 0\nexit\n")
}

// TestThereAndBack (P3.3, P3.4): lists of all forms are printed as the tests' own reading of P3.3 says, are read as the same lists, and are printed so again.
func TestThereAndBack(t *testing.T) {
	r := rand.New(rand.NewSource(3))
	all := everything()
	for n := range 600 {
		l := list(r, all, n%60)
		text := printed(l)
		wantPrint(t, l, text)
		wantParse(t, text, l)
	}
	var every []api.Ins
	for _, s := range all {
		every = append(every, s.ins)
	}
	for l := range slices.Chunk(every, api.MaxIns) {
		wantPrint(t, l, printed(l))
		wantParse(t, printed(l), l)
	}
}

// TestTaken (P3.4): what Parse reads with OK Print takes, and Print of what Parse reads of that is the same text.
func TestTaken(t *testing.T) {
	r := rand.New(rand.NewSource(4))
	all := everything()
	taken := 0
	for range 3000 {
		l, _, e := asm.Parse(soup(r, all))
		if e != api.OK {
			continue
		}
		taken++
		text, at, e := asm.Print(l)
		if at != 0 || e != api.OK {
			t.Errorf("Print(%s) = %d, %v", few(l), at, e)
		}
		wantParse(t, text, l)
		again, _, _ := asm.Parse(text)
		wantPrint(t, again, text)
	}
	if taken < 300 {
		t.Errorf("only %d of the texts were taken", taken)
	}
}

// soup is a text of lines that are right, or nearly so.
func soup(r *rand.Rand, all []said) string {
	var l []string
	for n := range r.Intn(6) {
		t := split(all[r.Intn(len(all))].text)
		if r.Intn(3) == 0 {
			t = append([]string{name("l", r.Intn(9)), ":"}, t...)
		}
		if last := len(t) - 1; r.Intn(2) == 0 && t[max(last-2, 0)] == "goto" {
			t = append(t[:last-1], name("l", n))
		}
		if r.Intn(8) == 0 {
			t = spoiled(r, t, all)
		}
		l = append(l, strings.Join(t, []string{" ", "\t", " \r"}[r.Intn(3)]))
	}
	return strings.Join(l, "\n")
}

// spoiled are tokens with one left out, doubled, changed for another, or two that have changed places.
func spoiled(r *rand.Rand, t []string, all []said) []string {
	t = slices.Clone(t)
	other := split(all[r.Intn(len(all))].text)
	a, b := r.Intn(len(t)), r.Intn(len(t))
	switch r.Intn(5) {
	case 0:
		return slices.Delete(t, a, a+1)
	case 1:
		return slices.Insert(t, a, t[a])
	case 2:
		t[a] = other[r.Intn(len(other))]
	case 3:
		return slices.Insert(t, a, other[r.Intn(len(other))])
	case 4:
		t[a], t[b] = t[b], t[a]
	}
	return t
}

// TestForm (P3.1): lines that are nearly of a form have ErrLine just where the tests' own expressions of the forms say that they have none.
func TestForm(t *testing.T) {
	r := rand.New(rand.NewSource(5))
	all := everything()
	count := [2]int{}
	for range 60000 {
		l := split(all[r.Intn(len(all))].text)
		for range 1 + r.Intn(2) {
			if len(l) > 0 {
				l = spoiled(r, l, all)
			}
		}
		line := strings.Join(l, " ") // without the blanks two tokens may be another one
		is := formed(l)
		_, n, e := asm.Parse(line)
		if is != (e != api.ErrLine) || e == api.ErrWord || (e == api.OK) != (n == 0) {
			t.Errorf("Parse(%q) = %d, %v; a form: %v", line, n, e, is)
		}
		if is {
			count[1]++
		} else {
			count[0]++
		}
	}
	if min(count[0], count[1]) < 3000 {
		t.Errorf("lines of no form and of one: %v", count)
	}
}

// other is a text that P3.5 says is the same: with other blanks, comments, empty lines, names and digits, and with labels that no jump goes to.
func other(r *rand.Rand, text string) string {
	blanks := []string{" ", "\t", "\r", " \t \r"}
	between := []string{"", "\n", "\r\n", " \n", "; goto L0\n", ";\xff\n\n", "unused: "}
	var b strings.Builder
	for n, line := range strings.SplitAfter(text, "\n") {
		s := between[r.Intn(len(between))]
		b.WriteString(strings.Replace(s, "unused", name("unused", n), 1))
		t := split(strings.TrimSuffix(line, "\n"))
		if r.Intn(2) == 0 {
			t = hexadecimal(t)
		}
		for i, w := range t {
			if strings.HasPrefix(w, "L") {
				w = "r" + w[1:] + "_"
			}
			if r.Intn(3) == 0 || i > 0 && wordy(t[i-1]) && wordy(w) {
				b.WriteString(blanks[r.Intn(len(blanks))])
			}
			b.WriteString(w)
		}
		if r.Intn(3) == 0 {
			b.WriteString("; \x00 \u00e9 ! exit")
		}
		if strings.HasSuffix(line, "\n") {
			b.WriteString([]string{"\n", "\r\n", " \n"}[r.Intn(3)])
		}
	}
	return b.String()
}

// TestTurnsNothing (P3.5).
func TestTurnsNothing(t *testing.T) {
	r := rand.New(rand.NewSource(6))
	all := everything()
	for n := range 600 {
		l := list(r, all, n%40)
		text := printed(l)
		wantParse(t, other(r, text), l)
		wantParse(t, other(r, strings.TrimSuffix(text, "\n")), l)
	}
	for _, f := range faults() {
		for _, text := range []string{"\n", "\r\n \r\n", "; exit\n;\xff\n", "unused:\n", "u: n:\n\n"} {
			wantRefused(t, "a:\n"+text+f.line+" ; \xff", 2+strings.Count(text, "\n"), f.e)
		}
	}
}

// TestByThemselves (P3.6): lines without labels are read one after the other; what stands behind one that is refused turns nothing.
func TestByThemselves(t *testing.T) {
	r := rand.New(rand.NewSource(7))
	all := everything()
	for n := range 300 {
		l := list(r, all, n%20)
		text := texts(l)
		var want []api.Ins
		for _, line := range text {
			one, _, e := asm.Parse(line)
			if e != api.OK {
				t.Errorf("Parse(%q): %v", line, e)
			}
			want = append(want, one...)
		}
		wantParse(t, strings.Join(text, "\n"), want)
		for _, f := range []fault{{api.ErrWord, "r1 = $"}, {api.ErrLine, "r1 == r2"}, {api.ErrRange, "r1 s%= 0"}} {
			wantRefused(t, f.line, 1, f.e)
			at := r.Intn(len(text) + 1)
			for _, behind := range [][]string{nil, text, behind()} {
				wantRefused(t, lines(slices.Concat(text[:at], []string{f.line}, behind)...), at+1, f.e)
			}
		}
	}
}

// TestKept (R3): a list that is handed in reads as before, spare room included; what Parse answers has nothing in common with another answer.
func TestKept(t *testing.T) {
	r := rand.New(rand.NewSource(8))
	all := everything()
	for n := range 100 {
		whole := list(r, all, n+8)
		whole[n+4] = api.Ins{Op: api.OpMov, Dst: 10}
		was := slices.Clone(whole)
		asm.Print(whole[:n])
		asm.Print(whole[:n+6])
		if !slices.Equal(whole, was) {
			t.Fatalf("the list has changed")
		}
		kept := was[:n]
		text := printed(kept)
		a, _, _ := asm.Parse(text)
		b, _, _ := asm.Parse(text)
		for i := range a[:cap(a)] {
			a[:cap(a)][i] = api.Ins{Op: -1}
		}
		if !slices.Equal(b, kept) {
			t.Fatalf("two answers share a list")
		}
		wantParse(t, text, kept)
	}
}

// TestEnds (R1): Parse, Print and Line end at whatever they are handed, the longest of one kind too; with an error all else is the zero value.
func TestEnds(t *testing.T) {
	for _, piece := range []string{"a", "9", "0", "-", "[", "=", "<", ":", "!", " ", "\n", "\xff", "\u00e9", "a:", "a: ", "a b ", "0x", "if ", "lock ", "r1 = ", "r1\n", "s>>=", "s ", "goto ", "u8 [", "r1 = - ", "\r\n", ";\n", "1 + "} {
		text := strings.Repeat(piece, api.MaxText/len(piece))
		parsed(t, text)
		parsed(t, "r1 = "+text[5:])
		parsed(t, "goto "+text[5:])
		parsed(t, text[1:]+"\n")
	}
	var labels strings.Builder
	for n := 0; labels.Len() < api.MaxText-20; n++ {
		labels.WriteString(name("a", n) + ":")
	}
	wantParse(t, labels.String()+"goto a0", []api.Ins{{Op: api.OpJa, Off: -1}})
	r := rand.New(rand.NewSource(9))
	all := everything()
	for range 3000 {
		b := []byte(soup(r, all))
		for range r.Intn(4) {
			if len(b) > 0 {
				b[r.Intn(len(b))] = byte(r.Intn(256))
			}
		}
		parsed(t, string(b))
	}
	odd := []int{math.MinInt, -1 << 32, -1, 0, 1, 2, 8, 11, 16, 1 << 31, math.MaxInt}
	any := func() int { return odd[r.Intn(len(odd))] }
	for range 30000 {
		i := api.Ins{Op: r.Intn(45) - 3, Narrow: r.Intn(2) == 0, Reg: r.Intn(2) == 0, Size: any(), Dst: any(), Src: any(), Off: any(), Imm: any()}
		_, e := code.Check([]api.Ins{i})
		if e == api.OK {
			wantLine(t, i, spelling(i), api.OK)
			wantPrint(t, []api.Ins{i}, printed([]api.Ins{i}))
		} else {
			wantLine(t, i, "", e)
			wantUnprinted(t, []api.Ins{i}, 0, e)
		}
	}
}

// parsed: of any text the answer is a list, or a line that there is and one of the errors.
func parsed(t *testing.T, text string) {
	t.Helper()
	l, line, e := asm.Parse(text)
	switch e {
	case api.OK:
		if line != 0 || len(l) > api.MaxIns {
			t.Errorf("Parse(%s) = %s, %d, OK", short(text), few(l), line)
		}
		if at, f := code.Check(l); f != api.OK {
			t.Errorf("Parse(%s): the instruction %d has %v", short(text), at, f)
		}
	case api.ErrWord, api.ErrLine, api.ErrTwice, api.ErrRange, api.ErrLong, api.ErrLabel:
		if len(l) != 0 || line < 1 || line > strings.Count(text, "\n")+1 {
			t.Errorf("Parse(%s) = %s, %d, %v", short(text), few(l), line, e)
		}
	default:
		t.Errorf("Parse(%s): %v", short(text), strconv.Itoa(int(e)))
	}
}
