package asm_test

import (
	"fmt"
	"strconv"
	"strings"

	"warrant/api"
)

// short and few tell texts and lists of which the beginning says enough.

func short(text string) string {
	if len(text) > 120 {
		return fmt.Sprintf("%q.. (%d bytes)", text[:120], len(text))
	}
	return strconv.Quote(text)
}

func few(l []api.Ins) string {
	if len(l) > 4 {
		return fmt.Sprintf("%+v.. (%d instructions)", l[:4], len(l))
	}
	return fmt.Sprintf("%+v", l)
}

// close are tokens with blanks only where they must stand.
func close(tokens []string) string {
	text := ""
	for n, t := range tokens {
		if n > 0 && wordy(tokens[n-1]) && wordy(t) {
			text += " "
		}
		text += t
	}
	return text
}

// wordy tells whether a token is a word or a number.
func wordy(t string) bool {
	return strings.Contains("_0123456789abcdefghijklmnopqrstuvwxyzABCDEFGHIJKLMNOPQRSTUVWXYZ", t[:1])
}

// hexadecimal are tokens with their numbers in hexadecimal digits.
func hexadecimal(tokens []string) []string {
	var l []string
	for _, t := range tokens {
		if v, err := strconv.ParseUint(t, 10, 64); err == nil {
			t = "0x" + strconv.FormatUint(v, 16)
		}
		l = append(l, t)
	}
	return l
}
