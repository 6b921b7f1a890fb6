package code

import "warrant/api"

// reader reads bytes from the left on, and gives up by a panic with an error's number.
type reader struct {
	left  []byte
	unit  int // where left begins
	begun int // where the instruction begins that is read
}

// caught is the error that a reader gave up with; OK, if it did not. A panic of another kind is none of its own, and goes on.
func caught(up any) api.Errno {
	switch why := up.(type) {
	case nil:
		return api.OK
	case api.Errno:
		return why
	}
	panic(up)
}

func need(is bool, e api.Errno) {
	if !is {
		panic(e)
	}
}

// more tells whether bytes are left; if so, an instruction begins with them.
func (r *reader) more() bool {
	r.begun = r.unit
	return len(r.left) > 0
}

func (r *reader) next() unit {
	need(len(r.left) >= unitSize, api.ErrShort)
	u := parse(r.left[:unitSize])
	r.left = r.left[unitSize:]
	r.unit++
	return u
}

func (r *reader) ins() api.Ins {
	var v unit
	u := r.next()
	i := operation(u.opcode)
	need(i.Op != 0, api.ErrOp)
	if long(i.Op) {
		v = r.next()
	}
	i = filled(chosen(i, u), u, v)
	need(registers(i), api.ErrReg)
	// It has all that it names from u: where it would be written otherwise, u has what no instruction has.
	w := first(i)
	need(u.dst == w.dst && u.src == w.src && u.off == w.off, api.ErrField)
	need(v == unit{imm: v.imm}, api.ErrField)
	need(u.imm == w.imm && sized(i) && immediate(i), api.ErrImm)
	return i
}

// chosen is the operation, and the Size, of those that an opcode has in common, by the field that tells them apart.
func chosen(i api.Ins, u unit) api.Ins {
	switch i.Op {
	case api.OpDiv:
		if u.off == offSigned {
			i.Op = api.OpSdiv
		}
	case api.OpMod:
		if u.off == offSigned {
			i.Op = api.OpSmod
		}
	case api.OpMov:
		if m := (api.Ins{Op: api.OpMovs, Narrow: i.Narrow, Reg: i.Reg, Size: u.off}); operates(m) {
			return m
		}
	case api.OpLe, api.OpBe, api.OpBswap:
		i.Size = u.imm
	case api.OpWide:
		if u.src == srcData {
			i.Op = api.OpData
		}
	}
	return i
}

// filled is an instruction with the fields that it names.
func filled(i api.Ins, u, v unit) api.Ins {
	p := named(i)
	if p&hasDst != 0 {
		i.Dst = u.dst
	}
	if p&hasSrc != 0 {
		i.Src = u.src
	}
	if p&hasOff != 0 {
		i.Off = u.off
	}
	switch {
	case i.Op == api.OpWide:
		i.Imm = v.imm<<32 | int(uint32(u.imm))
	case i.Op == api.OpData:
		i.Imm = v.imm
	case p&hasImm != 0:
		i.Imm = u.imm
	}
	return i
}
