package help_test

import (
	"os"
	"os/exec"
	"strconv"
	"testing"

	"warrant/api"
)

// firstCall names, in the surroundings of a process of its own, the call that it makes first.
const firstCall = "HELP_FIRST_CALL"

// TestFirst (R4, R6): the answers are the same whichever call is made first; so each of them is made first, in a process of its own.
func TestFirst(t *testing.T) {
	calls := known()
	if text := os.Getenv(firstCall); text != "" {
		first, err := strconv.Atoi(text)
		if err != nil || first < 0 || first >= len(calls) {
			t.Fatalf("no call %q", text)
		}
		calls[first](t)
		for n := range calls {
			calls[(first+n)%len(calls)](t)
		}
		return
	}
	self, err := os.Executable()
	if err != nil {
		t.Fatal(err)
	}
	for first := range calls {
		c := exec.Command(self, "-test.run=^TestFirst$")
		c.Env = append(os.Environ(), firstCall+"="+strconv.Itoa(first))
		if out, err := c.CombinedOutput(); err != nil {
			t.Errorf("with the call %d first: %v\n%s", first, err, out)
		}
	}
}

// known are calls whose answers are known.
func known() []func(t *testing.T) {
	calls := []func(t *testing.T){
		func(t *testing.T) { wantSum(t, of(1, 2, 3), -1, 1026) },
		func(t *testing.T) { wantSum(t, nil, 65536, 0) },
		func(t *testing.T) { wantDiff(t, of(200), of(100, 1), 1) },
		func(t *testing.T) { wantFind(t, of(1, 2, 3), 259, 2) },
		func(t *testing.T) { wantMix(t, 3, 7, 5773753997762736895) },
	}
	for _, id := range []int{0, 9, -1} {
		calls = append(calls, func(t *testing.T) { wantSig(t, id, api.Sig{}, false) })
	}
	for n, want := range signed() {
		calls = append(calls, func(t *testing.T) { wantSig(t, n+1, want, true) })
	}
	return calls
}
