package zone

import "warrant/api"

// row holds a bound, or none, for each variable.
type row [api.Vars]int

// blank is the row without a bound.
func blank() row {
	var r row
	for q := range r {
		r[q] = none
	}
	return r
}

// lower takes the lesser of each bound and the way to it: first so far, and then as the other row has it.
func (r *row) lower(first int, then *row) {
	if first == none { // as most are: there is no way then
		return
	}
	for q, c := range then {
		r[q] = min(r[q], sum(first, c))
	}
}

// table holds the bound of each variable less each other one; of a variable less itself it is 0.
type table [api.Vars]row

// open is the table without a bound.
func open() table {
	var m table
	for v := range m {
		m[v] = blank()
		m[v][v] = 0
	}
	return m
}

// free takes away the bounds in which v stands.
func (m *table) free(v int) {
	for q := range m {
		m[v][q], m[q][v] = none, none
	}
	m[v][v] = 0
}

// with adds bounds one after the other; false: no assignment is left.
func (m *table) with(cs []api.Con) bool {
	for _, c := range cs {
		if !m.add(c.I, c.J, c.C) {
			return false
		}
	}
	return true
}

// add adds one bound, and what follows from it by ways through it.
func (m *table) add(i, j, c int) bool {
	if i == j {
		return c >= 0
	}
	if m[i][j] <= c {
		return true
	}
	if sum(m[j][i], c) < 0 {
		return false
	}
	then := m[j] // a copy: all is reckoned with the bounds as they were
	for p := range m {
		m[p].lower(sum(m[p][i], c), &then)
		if m[p][p] < 0 {
			return false
		}
	}
	return true
}

// closed takes the least of the bounds that are handed in, then the ways through each variable; false: no assignment is left.
func (m *table) closed(cs []api.Con) bool {
	for _, c := range cs {
		m[c.I][c.J] = min(m[c.I][c.J], c.C)
	}
	for k := range m {
		then := m[k] // a copy: all is reckoned with the bounds as they were
		for i := range m {
			m[i].lower(m[i][k], &then)
		}
	}
	for v := range m {
		if m[v][v] < 0 {
			return false
		}
	}
	return true
}

// assign gives x the bounds of y, moved by c. Each of its bounds is written, so x need not be freed ahead of it; y may be x.
func (m *table) assign(x, y, c int) {
	for q := range m {
		if q != x {
			m[x][q], m[q][x] = sum(m[y][q], c), sum(m[q][y], -c)
		}
	}
}

// put renews x by its bounds to all others (up) and from them (down); false: no assignment is left.
func (m *table) put(x int, up, down *row) bool {
	m.free(x)
	above, below := blank(), blank()
	for k := range m {
		above.lower(up[k], &m[k])
		for q := range m {
			below[q] = min(below[q], sum(m[q][k], down[k]))
		}
	}
	for p := range m {
		m[p].lower(below[p], &above)
		if m[p][p] < 0 {
			return false
		}
		m[p][x] = below[p]
	}
	m[x] = above
	m[x][x] = 0
	return true
}

// within tells whether no bound is greater than the other table's.
func (m *table) within(o *table) bool {
	for i := range m {
		for j, c := range m[i] {
			if c > o[i][j] {
				return false
			}
		}
	}
	return true
}

// merge makes each bound anew, of it and the other table's.
func (m *table) merge(o *table, by func(a, b int) int) {
	for i := range m {
		for j, c := range m[i] {
			m[i][j] = by(c, o[i][j])
		}
	}
}

// list is the bounds of unlike variables.
func (m *table) list() []api.Con {
	var l []api.Con
	for i := range m {
		for j, c := range m[i] {
			if i != j && c != none {
				l = append(l, api.Con{I: i, J: j, C: c})
			}
		}
	}
	return l
}
