package pack

import "warrant/api"

// fault is a byte that is wrong, and why.
type fault struct {
	at int
	e  api.Errno
}

// between is what stands ahead of the sum, if its beginning and the sum are right.
func between(b []byte) ([]byte, fault) {
	end := len(b) - sumSize
	switch {
	case len(b) > api.MaxPack:
		return nil, fault{0, api.ErrLong}
	case len(b) < len(mark)+sumSize:
		return nil, fault{len(b), api.ErrPack}
	case string(b[:len(mark)]) != mark:
		return nil, fault{0, api.ErrPack}
	case number(b[end:]) != int(sum(b[:end])):
		return nil, fault{end, api.ErrSum}
	}
	return b[:end:end], fault{}
}

// reader goes from section to section.
type reader struct {
	b    []byte // what stands ahead of the sum
	at   int    // where the next section begins
	last int    // the kind of the section ahead; 0: there is none
}

// pack reads all sections into a container, up to the first fault.
func (r *reader) pack(k *api.Pack) fault {
	for r.at < len(r.b) {
		s, f := r.section()
		if f.e == api.OK {
			f = s.into(k)
		}
		if f.e != api.OK {
			return f
		}
	}
	if r.last == 0 {
		return r.short()
	}
	return fault{}
}

// short is the fault of sections that end too early.
func (r *reader) short() fault { return fault{len(r.b), api.ErrPack} }

// section cuts off the next section. Its contents have no room behind them, so that nothing that is put there runs into the next one.
func (r *reader) section() (section, fault) {
	kind := int(r.b[r.at])
	if !follows(r.last, kind) {
		return section{}, fault{r.at, api.ErrPack}
	}
	from := r.at + headSize
	if from > len(r.b) {
		return section{}, r.short()
	}
	n := number(r.b[r.at+kindSize : from])
	if e := uncounted(kind, n); e != api.OK {
		return section{}, fault{r.at + kindSize, e}
	}
	to := from + n
	if to > len(r.b) {
		return section{}, r.short()
	}
	r.at, r.last = to, kind
	return section{kind, from, r.b[from:to:to]}, fault{}
}

// follows tells whether a section of a kind may stand behind one of the kind last (0: behind none).
func follows(last, kind int) bool {
	if last == 0 {
		return kind == lensKind
	}
	return kind > last && kind <= codeKind
}

// uncounted is the error of a section of a kind that has so many bytes.
func uncounted(kind, n int) api.Errno {
	switch {
	case n == 0, kind == lensKind && n != lensSize, kind == tablesKind && n%tableSize != 0:
		return api.ErrPack
	case kind == tablesKind && n > tableSize*api.MaxTables:
		return api.ErrTable
	case kind == dataKind && n > api.MaxData:
		return api.ErrData
	}
	return api.OK
}

// into puts what a section says into a container.
func (s section) into(k *api.Pack) fault {
	switch s.kind {
	case lensKind:
		return s.lens(k)
	case tablesKind:
		return s.tables(k)
	case dataKind:
		k.Data = copied(s.contents)
	case codeKind:
		k.Code = copied(s.contents)
	}
	return fault{}
}

func (s section) lens(k *api.Pack) fault {
	k.Lo, k.Hi = number(s.contents[:lenSize]), number(s.contents[lenSize:])
	if k.Lo > k.Hi {
		return fault{s.at, api.ErrLens}
	}
	return fault{}
}

func (s section) tables(k *api.Pack) fault {
	k.Tables = make([]api.Table, len(s.contents)/tableSize)
	for n := range k.Tables {
		at := n * tableSize
		t := api.Table{Rows: int(s.contents[at]), Wide: int(s.contents[at+1])}
		if !rows(t.Rows) {
			return fault{s.at + at, api.ErrTable}
		}
		if !wide(t.Wide) {
			return fault{s.at + at + 1, api.ErrTable}
		}
		k.Tables[n] = t
	}
	return fault{}
}
