package asm

import "strings"

// tokens are those of a line, from the left on; false, if something in it is none.
func tokens(line string) ([]string, bool) {
	line, _, _ = strings.Cut(line, ";")
	var l []string
	var begun []rune
	for _, c := range line + " " { // the blank ends the last token
		if goesOn(begun, c) {
			begun = append(begun, c)
			continue
		}
		if len(begun) > 0 {
			t := string(begun)
			if !token(t) {
				return nil, false
			}
			l = append(l, t)
		}
		begun = begun[:0]
		if !blank(c) {
			begun = append(begun, c)
		}
	}
	return l, true
}

// goesOn tells whether a rune belongs to the token that is begun. A mark may be looked for rune by rune: of each the beginnings are marks too, or a single rune.
func goesOn(begun []rune, c rune) bool {
	switch {
	case len(begun) == 0:
		return false
	case letter(begun[0]) || digit(begun[0]):
		return letter(c) || digit(c)
	}
	return mark(string(begun) + string(c))
}

func blank(c rune) bool { return c == ' ' || c == '\t' || c == '\r' }

func letter(c rune) bool {
	return 'a' <= c && c <= 'z' || 'A' <= c && c <= 'Z' || c == '_'
}

func digit(c rune) bool { return '0' <= c && c <= '9' }

// token tells whether what was put together is one.
func token(t string) bool { return word(t) || number(t) || mark(t) }

// word tells whether a text of letters and digits, or of others, is a word.
func word(t string) bool { return t != "" && letter(rune(t[0])) }

func number(t string) bool {
	digits, known := t, "0123456789"
	if rest, is := strings.CutPrefix(t, "0x"); is {
		digits, known = rest, "0123456789abcdef"
	}
	return digits != "" && strings.Trim(digits, known) == ""
}

func mark(t string) bool {
	switch t {
	case "+", "-", "[", "]", ":", "=", "&", "<", ">",
		"==", "!=", "<=", ">=", "<<", ">>",
		"+=", "-=", "*=", "/=", "%=", "|=", "&=", "^=", "<<=", ">>=":
		return true
	}
	return false
}
