package zone_test

import "warrant/api"

// The chapter's calls once more, word by word and as plainly as can be: what the package answers is held against these. All at once means here: read from the old table, written into a new one.

const (
	vars = 60
	most = 1 << 60
)

// reckoned is a zone: the empty one, or a bound or none for each pair.
type reckoned struct {
	empty bool
	m     [vars][vars]api.Bound
}

func is(c int) api.Bound { return api.Bound{Is: true, C: c} }

func nothing() reckoned { return reckoned{empty: true} }

func blank() reckoned {
	var z reckoned
	for i := range vars {
		z.m[i][i] = is(0)
	}
	return z
}

// plus is a sum of bounds.
func plus(a, b api.Bound) api.Bound {
	if !a.Is || !b.Is {
		return api.Bound{}
	}
	s := a.C + b.C
	if s > most {
		return api.Bound{}
	}
	if s < -most {
		s = -most
	}
	return is(s)
}

func lesser(a, b api.Bound) api.Bound {
	if !a.Is || b.Is && b.C < a.C {
		return b
	}
	return a
}

// below tells whether a bound is below 0.
func below(b api.Bound) bool { return b.Is && b.C < 0 }

// atMost tells whether there is a bound, and one that is no greater than c.
func atMost(b api.Bound, c int) bool { return b.Is && b.C <= c }

func isVar(v int) bool { return v >= 0 && v <= 59 }

// sound is the error of a list of Cons.
func sound(cs []api.Con) api.Errno {
	for _, c := range cs {
		if !isVar(c.I) || !isVar(c.J) {
			return api.ErrVar
		}
		if c.C < -most || c.C > most {
			return api.ErrConst
		}
	}
	return api.OK
}

func (z *reckoned) cons() []api.Con {
	var l []api.Con
	for i := 0; i < vars && !z.empty; i++ {
		for j := range vars {
			if i != j && z.m[i][j].Is {
				l = append(l, api.Con{I: i, J: j, C: z.m[i][j].C})
			}
		}
	}
	return l
}

func (z *reckoned) bound(i, j int) api.Bound {
	if z.empty || !isVar(i) || !isVar(j) {
		return api.Bound{}
	}
	return z.m[i][j]
}

func (z reckoned) with(cs ...api.Con) (reckoned, api.Errno) {
	if e := sound(cs); e != api.OK {
		return reckoned{}, e
	}
	for _, c := range cs {
		if z.empty {
			break
		}
		z = z.withOne(c)
	}
	return z, api.OK
}

func (z reckoned) withOne(con api.Con) reckoned {
	i, j, c := con.I, con.J, con.C
	if i == j {
		if c >= 0 {
			return z
		}
		return nothing()
	}
	if atMost(z.m[i][j], c) {
		return z
	}
	if below(plus(z.m[j][i], is(c))) {
		return nothing()
	}
	old := z
	for p := range vars {
		for q := range vars {
			z.m[p][q] = lesser(old.m[p][q], plus(plus(old.m[p][i], is(c)), old.m[j][q]))
		}
	}
	for p := range vars {
		if below(z.m[p][p]) {
			return nothing()
		}
	}
	return z
}

func closed(cs ...api.Con) (reckoned, api.Errno) {
	if e := sound(cs); e != api.OK {
		return reckoned{}, e
	}
	t := blank()
	for _, c := range cs {
		t.m[c.I][c.J] = lesser(t.m[c.I][c.J], is(c.C))
	}
	for k := range vars {
		old := t
		for i := range vars {
			for j := range vars {
				t.m[i][j] = lesser(old.m[i][j], plus(old.m[i][k], old.m[k][j]))
			}
		}
	}
	for i := range vars {
		if below(t.m[i][i]) {
			return nothing(), api.OK
		}
	}
	return t, api.OK
}

func (z reckoned) forget(vs ...int) reckoned {
	if z.empty {
		return z
	}
	for _, v := range vs {
		if v < 1 || v > 59 {
			continue
		}
		for q := range vars {
			if q != v {
				z.m[v][q], z.m[q][v] = api.Bound{}, api.Bound{}
			}
		}
	}
	return z
}

func (z reckoned) assign(x, y, c int) (reckoned, api.Errno) {
	if x < 1 || x > 59 || !isVar(y) {
		return reckoned{}, api.ErrVar
	}
	if c < -most || c > most {
		return reckoned{}, api.ErrConst
	}
	if z.empty {
		return z, api.OK
	}
	old := z
	if y != x {
		z = z.forget(x)
	}
	for q := range vars {
		switch {
		case q == x:
		case y == x:
			z.m[x][q], z.m[q][x] = plus(old.m[x][q], is(c)), plus(old.m[q][x], is(-c))
		default:
			z.m[x][q], z.m[q][x] = plus(old.m[y][q], is(c)), plus(old.m[q][y], is(-c))
		}
	}
	return z, api.OK
}

func (z reckoned) put(x int, up, down []api.Bound) (reckoned, api.Errno) {
	if x < 1 || x > 59 {
		return reckoned{}, api.ErrVar
	}
	if len(up) != 60 || len(down) != 60 {
		return reckoned{}, api.ErrArg
	}
	for _, l := range [][]api.Bound{up, down} {
		for k, b := range l {
			if k != x && b.Is && (b.C < -most || b.C > most) {
				return reckoned{}, api.ErrConst
			}
		}
	}
	if z.empty {
		return z, api.OK
	}
	old := z.forget(x)
	var u, d [vars]api.Bound
	for q := range vars {
		for k := range vars {
			if q != x && k != x {
				u[q] = lesser(u[q], plus(up[k], old.m[k][q]))
				d[q] = lesser(d[q], plus(old.m[q][k], down[k]))
			}
		}
	}
	z = old
	for p := range vars {
		if p == x {
			continue
		}
		z.m[x][p], z.m[p][x] = u[p], d[p]
		if below(plus(d[p], u[p])) {
			return nothing(), api.OK
		}
		for q := range vars {
			if q != x {
				z.m[p][q] = lesser(old.m[p][q], plus(d[p], u[q]))
			}
		}
	}
	return z, api.OK
}

func (z reckoned) within(o reckoned) bool {
	if z.empty {
		return true
	}
	if o.empty {
		return false
	}
	for i := range vars {
		for j := range vars {
			if o.m[i][j].Is && !atMost(z.m[i][j], o.m[i][j].C) {
				return false
			}
		}
	}
	return true
}

func (z reckoned) join(o reckoned) reckoned {
	if z.empty {
		return o
	}
	if o.empty {
		return z
	}
	for i := range vars {
		for j := range vars {
			a, b := z.m[i][j], o.m[i][j]
			switch {
			case !a.Is || !b.Is:
				z.m[i][j] = api.Bound{}
			case b.C > a.C:
				z.m[i][j] = b
			}
		}
	}
	return z
}

func (z reckoned) widen(o reckoned) reckoned {
	if z.empty {
		return o
	}
	if o.empty {
		return z
	}
	for i := range vars {
		for j := range vars {
			if a, b := z.m[i][j], o.m[i][j]; !a.Is || !b.Is || b.C > a.C {
				z.m[i][j] = api.Bound{}
			}
		}
	}
	return z
}

func (z reckoned) same(o reckoned) bool { return z == o }

// isClosed tells whether no way through a third variable says more than a bound does.
func (z *reckoned) isClosed() bool {
	for k := range vars {
		for p := range vars {
			if !z.m[p][k].Is {
				continue
			}
			for q := range vars {
				if w := plus(z.m[p][k], z.m[k][q]); w.Is && !atMost(z.m[p][q], w.C) {
					return false
				}
			}
		}
	}
	return true
}
