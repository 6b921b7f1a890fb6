package pack

import (
	"slices"

	"warrant/api"
)

// sections are those that a container is written in: what is empty has none.
func sections(k api.Pack) []section {
	l := []section{
		{kind: lensKind, contents: lens(k.Lo, k.Hi)},
		{kind: tablesKind, contents: sizes(k.Tables)},
		{kind: dataKind, contents: k.Data},
		{kind: codeKind, contents: k.Code},
	}
	return slices.DeleteFunc(l, func(s section) bool { return len(s.contents) == 0 })
}

func lens(lo, hi int) []byte { return put(put(nil, lo, lenSize), hi, lenSize) }

func sizes(tables []api.Table) []byte {
	var b []byte
	for _, t := range tables {
		b = append(b, byte(t.Rows), byte(t.Wide))
	}
	return b
}

// size is how many bytes a container of these sections has.
func size(l []section) int {
	n := len(mark) + sumSize
	for _, s := range l {
		n += headSize + len(s.contents)
	}
	return n
}

// written is a container of these sections, in so many bytes.
func written(l []section, n int) []byte {
	b := append(make([]byte, 0, n), mark...)
	for _, s := range l {
		b = put(b, s.kind, kindSize)
		b = put(b, len(s.contents), countSize)
		b = append(b, s.contents...)
	}
	return put(b, int(sum(b)), sumSize)
}
