package onepass_test

import (
	"testing"

	"martello/api"
	"martello/inputs"
	"martello/onepass"
	. "martello/samples"
)

// TestWrongPrograms: H1, H2, rule P2: programs that are not right, also by what no way comes to, are not admitted, and nothing is told of them.
func TestWrongPrograms(t *testing.T) {
	for _, p := range WrongPrograms() {
		admits(t, p, false)
	}
	for _, bad := range WrongInsts() {
		p := Program(Stand(api.AtBegin, 1), Match(), bad)
		admits(t, p, false)
		p.Insts[2] = Match()
		admits(t, p, true)
	}
}

// TestNotAdmitted: H2, rule P2: of right programs that are not admitted nothing is told, though their walks have matches.
func TestNotAdmitted(t *testing.T) {
	for _, pattern := range []string{"", "a", "^a*a", "^(?:a|ab)", "^(a*)*", "(?m:^a)", "a|^b"} {
		p := ProgOf(t, pattern)
		in := Made(t, "aaab")
		if len(Walked(p, in, 0)) == 0 {
			t.Errorf("%q: no match", pattern)
		}
		admits(t, p, false)
		tellsNothing(t, p, in)
	}
}

// TestNoInput: H2: without an input nothing is told, whatever the program is.
func TestNoInput(t *testing.T) {
	for _, pattern := range []string{"^", "^a", "a", `^[^\x{0}-\x{10ffff}]`} {
		p := ProgOf(t, pattern)
		tellsNothing(t, p, nil)
	}
	for _, p := range WrongPrograms() {
		tellsNothing(t, p, nil)
	}
}

// TestNotMade: rule P1: an input that no call has made has no runes, and no call panics.
func TestNotMade(t *testing.T) {
	for _, pattern := range []string{"^", "^a", "^a*", "^(?:a|b)*$"} {
		p := ProgOf(t, pattern)
		for _, longest := range []bool{false, true} {
			onepass.Match(p, new(inputs.Input), longest)
		}
	}
}

// TestNoMatch: H2: no match is nothing and false, but steps were taken.
func TestNoMatch(t *testing.T) {
	for _, pattern := range []string{"^a", "^ab", "^$", `^[^\x{0}-\x{10ffff}]`, "^a*c"} {
		p := ProgOf(t, pattern)
		bothMatch(t, p, Made(t, "xab"), nil)
	}
	bothMatch(t, Program(Fail()), Made(t, ""), nil)
}
