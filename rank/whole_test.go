package rank_test

import (
	"testing"

	"warrant/api"
	"warrant/check"
)

// TestAgainstTheWords (P14.1, P14.2, P14.3): drawn programs with claims that hold, as they are and turned, against the chapter's words.
func TestAgainstTheWords(t *testing.T) {
	t.Parallel()
	met := map[string]int{}
	for seed := range 100 {
		d := rolling(seed)
		c := d.grown(t)
		if v, _ := check.Check(c.p, c.d); v == nil {
			met["not proven"]++
			continue
		}
		all := []pair{c}
		for range 20 {
			if other := d.turned(c); len(all) < 8 {
				if v, _ := check.Check(other.p, other.d); v != nil {
					all = append(all, other)
				}
			}
		}
		for _, c := range all {
			b, fault := c.held(t)
			for _, s := range sorts(c, fault) {
				met[s]++
			}
			if b == nil {
				continue
			}
			if len(c.d.Loops) > 1 {
				met["several loops"]++
			}
			for h, l := range c.d.Loops {
				if c.d.Claims[l.Head].Dead {
					met["a dead one"]++
				} else if b.Visits(h) > 1 {
					met["several visits"]++
				}
			}
		}
	}
	for s, n := range map[string]int{"bounded": 200, "head": 80, "back": 80, "edge 1": 5, "later loop": 30, "too many": 10, "several loops": 150, "a dead one": 10, "several visits": 300} {
		if met[s] < n {
			t.Errorf("%s: %d", s, met[s])
		}
	}
	if met["not proven"] > 20 {
		t.Errorf("%d were not proven", met["not proven"])
	}
}

// sorts are the sorts of answers of which one is.
func sorts(c pair, f api.Fault) []string {
	var l []string
	switch {
	case f == (api.Fault{}):
		return []string{"bounded"}
	case f.Class == api.ErrBound:
		return []string{"too many"}
	case f.Edge < 0:
		l = append(l, "head")
	default:
		l = append(l, "back")
	}
	if f.Edge == 1 {
		l = append(l, "edge 1")
	}
	if f.Loop > 0 {
		l = append(l, "later loop")
	}
	return l
}
