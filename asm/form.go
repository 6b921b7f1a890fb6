package asm

import "warrant/api"

// forms are the readers of the forms of instructions, one to be tried behind the other.
func (r *reader) forms() []func() api.Ins {
	return []func() api.Ins{
		r.joining, r.negative, r.extending, r.turning, r.wide, r.data,
		r.load, r.signedLoad, r.store, r.locked, r.fetching, r.comparing,
		r.jump, r.farJump, r.branch, r.call, r.exit,
	}
}

// joining: rD op rS, rD op N.
func (r *reader) joining() api.Ins {
	i := api.Ins{Narrow: r.narrow()}
	i.Dst = r.register(i.Narrow)
	i.Op = r.operation(api.OpAdd, api.OpMov)
	return r.second(i)
}

// assigned reads the register ahead of a mark =.
func (r *reader) assigned(narrow bool) int {
	reg := r.register(narrow)
	r.need("=")
	return reg
}

// negative: rD = - rD.
func (r *reader) negative() api.Ins {
	i := api.Ins{Op: api.OpNeg, Narrow: r.narrow()}
	i.Dst = r.assigned(i.Narrow)
	r.need("-")
	r.same(i.Narrow, i.Dst)
	return i
}

// extending: rD = s8 rS.
func (r *reader) extending() api.Ins {
	i := api.Ins{Op: api.OpMovs, Narrow: r.narrow(), Reg: true}
	i.Dst = r.assigned(i.Narrow)
	if i.Narrow {
		i.Size = r.numbered("s", 8, 16)
	} else {
		i.Size = r.numbered("s", 8, 16, 32)
	}
	i.Src = r.register(i.Narrow)
	return i
}

// turning: rD = le16 rD.
func (r *reader) turning() api.Ins {
	i := api.Ins{Dst: r.assigned(false)}
	for _, t := range turnings {
		if size, is := r.isNumbered(t.name, 16, 32, 64); is {
			i.Op, i.Size = t.op, size
			r.same(false, i.Dst)
			return i
		}
	}
	r.failed = true
	return i
}

// wide: rD = wide N.
func (r *reader) wide() api.Ins {
	i := api.Ins{Op: api.OpWide, Dst: r.assigned(false)}
	r.need("wide")
	i.Imm = r.number()
	return i
}

// data: rD = data N.
func (r *reader) data() api.Ins {
	i := api.Ins{Op: api.OpData, Dst: r.assigned(false)}
	r.need("data")
	i.Imm = r.number()
	return i
}

// load: rD = u8 [ rS M ].
func (r *reader) load() api.Ins {
	i := api.Ins{Op: api.OpLoad, Dst: r.assigned(false)}
	i.Size = r.numbered("u", 8, 16, 32, 64) / 8
	i.Src, i.Off = r.place()
	return i
}

// signedLoad: rD = s8 [ rS M ].
func (r *reader) signedLoad() api.Ins {
	i := api.Ins{Op: api.OpLoads, Dst: r.assigned(false)}
	i.Size = r.numbered("s", 8, 16, 32) / 8
	i.Src, i.Off = r.place()
	return i
}

// store: u8 [ rD M ] = rS, u8 [ rD M ] = N.
func (r *reader) store() api.Ins {
	i := api.Ins{Op: api.OpStore}
	i.Size = r.numbered("u", 8, 16, 32, 64) / 8
	i.Dst, i.Off = r.place()
	r.need("=")
	return r.second(i)
}

// atomic reads what all atomic operations have: lock u32 [ rD M ].
func (r *reader) atomic() api.Ins {
	i := api.Ins{Op: api.OpAtom}
	r.need("lock")
	i.Size = r.numbered("u", 32, 64) / 8
	i.Dst, i.Off = r.place()
	return i
}

// locked: lock u32 [ rD M ] aop rS.
func (r *reader) locked() api.Ins {
	i := r.atomic()
	i.Imm = r.atom()
	i.Src = r.register(false)
	return i
}

// fetching: rS = lock u32 [ rD M ] aop rS, and with = for aop.
func (r *reader) fetching() api.Ins {
	src := r.assigned(false)
	i := r.atomic()
	i.Src = src
	if r.is("=") {
		i.Imm = api.AtomXchg
	} else {
		i.Imm = r.atom() | api.AtomFetch
	}
	r.same(false, src)
	return i
}

// comparing: lock u32 [ rD M ] = rS if r0.
func (r *reader) comparing() api.Ins {
	i := r.atomic()
	i.Imm = api.AtomCmpx
	r.need("=")
	i.Src = r.register(false)
	r.need("if", "r0")
	return i
}

// jump: goto T.
func (r *reader) jump() api.Ins {
	r.need("goto")
	return api.Ins{Op: api.OpJa, Off: r.target()}
}

// farJump: goto far T.
func (r *reader) farJump() api.Ins {
	r.need("goto", "far")
	return api.Ins{Op: api.OpJa, Narrow: true, Imm: r.target()}
}

// branch: if rD c rS goto T, if rD c N goto T.
func (r *reader) branch() api.Ins {
	r.need("if")
	i := api.Ins{Narrow: r.narrow()}
	i.Dst = r.register(i.Narrow)
	i.Op = r.operation(api.OpJeq, api.OpJset)
	i = r.second(i)
	r.need("goto")
	i.Off = r.target()
	return i
}

// call: call N.
func (r *reader) call() api.Ins {
	r.need("call")
	return api.Ins{Op: api.OpCall, Imm: r.number()}
}

// exit: exit.
func (r *reader) exit() api.Ins {
	r.need("exit")
	return api.Ins{Op: api.OpExit}
}
