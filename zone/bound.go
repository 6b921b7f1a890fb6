package zone

import "warrant/api"

// none stands where there is no bound: greater than all bounds, so that comparing needs no case for it; even beside the least bound its sum is no bound either, and with itself it stays in an int.
const none = 3 * api.Most

// sum is a sum of bounds: none beyond Most, and never below -Most.
func sum(a, b int) int {
	s := a + b
	if s > api.Most {
		return none
	}
	return max(s, -api.Most)
}

// greater is the greater of two bounds, none if one of them is.
func greater(a, b int) int { return max(a, b) }

// kept is the first bound, if the second is no greater.
func kept(a, b int) int {
	if b <= a {
		return a
	}
	return none
}

// told is a bound as those see it who ask.
func told(b int) api.Bound {
	if b == none {
		return api.Bound{}
	}
	return api.Bound{Is: true, C: b}
}

// variable tells whether a variable has this number.
func variable(v int) bool { return 0 <= v && v < api.Vars }

// renewable tells whether it is a variable that need not be the number 0.
func renewable(v int) bool { return v != 0 && variable(v) }

// inRange tells whether a bound can be this number.
func inRange(c int) bool { return -api.Most <= c && c <= api.Most }

// wrong is what is wrong with the first Con that is.
func wrong(cs []api.Con) api.Errno {
	for _, c := range cs {
		if !variable(c.I) || !variable(c.J) {
			return api.ErrVar
		}
		if !inRange(c.C) {
			return api.ErrConst
		}
	}
	return api.OK
}

// others are the bounds that x is given to all other variables, or from them.
func others(x int, l []api.Bound) (row, api.Errno) {
	r := blank()
	for k, b := range l {
		if k == x || !b.Is {
			continue
		}
		if !inRange(b.C) {
			return row{}, api.ErrConst
		}
		r[k] = b.C
	}
	return r, api.OK
}
