package asm

import (
	"warrant/api"
	"warrant/code"
	"warrant/jumps"
)

// program is what the lines of a text came to so far.
type program struct {
	list   []api.Ins
	labels map[string]int // the number of the instruction ahead of which each stands
	jumps  []jump
}

// jump is an instruction that goes to a label.
type jump struct {
	ins, line int
	goal      string
}

// take reads the next line.
func (p *program) take(text string, number int) api.Errno {
	l, is := tokens(text)
	if !is {
		return api.ErrWord
	}
	r := reader{left: l}
	if !r.line() {
		return api.ErrLine
	}
	if !p.lay(r.labels) {
		return api.ErrTwice
	}
	if _, e := code.Check(r.ins); r.beyond || e != api.OK {
		return api.ErrRange
	}
	if len(p.list)+len(r.ins) > api.MaxIns {
		return api.ErrLong
	}
	if r.goal != "" {
		p.jumps = append(p.jumps, jump{ins: len(p.list), line: number, goal: r.goal})
	}
	p.list = append(p.list, r.ins...)
	return api.OK
}

// lay lets labels stand ahead of the next instruction; false, if one of them stands already.
func (p *program) lay(labels []string) bool {
	for _, name := range labels {
		if _, is := p.labels[name]; is {
			return false
		}
		p.labels[name] = len(p.list)
	}
	return true
}

// lead gives the jumps their distances; or tells the line of the first one whose label is none.
func (p *program) lead() (line int, e api.Errno) {
	begins := code.Units(p.list)
	for _, j := range p.jumps {
		to, is := p.labels[j.goal]
		if !is {
			return j.line, api.ErrLabel
		}
		p.list[j.ins] = jumps.Led(p.list[j.ins], begins[to]-begins[j.ins+1])
	}
	return 0, api.OK
}
