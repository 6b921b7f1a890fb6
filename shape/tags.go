package shape

import "warrant/api"

// allBytes is the mask of a slot of which each byte is written.
const allBytes = 1<<8 - 1

// tags are those of the registers and of the slots behind them, in the order of their variables.
type tags [api.VarGhost - api.VarReg]api.Tag

func together(regs [10]api.Tag, stack [api.Slots]api.Tag) tags {
	var t tags
	n := copy(t[:], regs[:])
	copy(t[n:], stack[:])
	return t
}

// tagged tells whether a variable is a register's or a slot's.
func tagged(v int) bool { return api.VarReg <= v && v < api.VarGhost }

func (t *tags) good() bool {
	for n, tag := range t {
		if !good(tag, api.VarReg+n >= api.VarSlot) {
			return false
		}
	}
	return true
}

// good tells whether a register, or a slot, may have the tag.
func good(t api.Tag, slot bool) bool {
	table, mask := 0, 0 // the greatest that there may be
	switch t.Kind {
	case api.KindNone:
		if slot {
			mask = allBytes
		}
	case api.KindNum, api.KindStack, api.KindCtx, api.KindData:
	case api.KindRow, api.KindMaybe:
		table = api.MaxTables - 1
	default:
		return false
	}
	return 0 <= t.Table && t.Table <= table && 0 <= t.Mask && t.Mask <= mask
}

// valued tells whether a variable has a value, of which bounds may speak.
func (t *tags) valued(v int) bool {
	if !tagged(v) {
		return true
	}
	k := t[v-api.VarReg].Kind
	return k != api.KindNone && k != api.KindMaybe
}

// valueless are the variables that have no value.
func (t *tags) valueless() []int {
	var l []int
	for v := range api.Vars {
		if !t.valued(v) {
			l = append(l, v)
		}
	}
	return l
}

// allow tells whether a bound may be of these two variables.
func (t *tags) allow(c api.Con) bool { return t.valued(c.I) && t.valued(c.J) }

// wrong is what is wrong with a Con of a claim.
func (t *tags) wrong(c api.Con) api.Errno {
	switch {
	case !variable(c.I) || !variable(c.J) || c.I == c.J:
		return api.ErrVar
	case !t.allow(c):
		return api.ErrCons
	case c.C < -api.Most || c.C > api.Most:
		return api.ErrConst
	}
	return api.OK
}

func variable(v int) bool { return 0 <= v && v < api.Vars }

// written is the mask of the bytes that are written, where a slot is of that tag.
func written(t api.Tag) int {
	if t.Kind == api.KindNum {
		return allBytes
	}
	return t.Mask
}
