package code_test

import (
	"encoding/hex"
	"fmt"

	"warrant/api"
)

// short and few tell bytes and lists of which the beginning says enough.

func short(b []byte) string {
	if len(b) > 48 {
		return fmt.Sprintf("%s.. (%d bytes)", hex.EncodeToString(b[:48]), len(b))
	}
	return hex.EncodeToString(b)
}

func few(l []api.Ins) string {
	if len(l) > 4 {
		return fmt.Sprintf("%+v.. (%d instructions)", l[:4], len(l))
	}
	return fmt.Sprintf("%+v", l)
}
