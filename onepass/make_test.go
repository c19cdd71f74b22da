package onepass_test

import (
	"fmt"
	"slices"
	"testing"

	"martello/api"
	"martello/inputs"
	"martello/onepass"
	. "martello/samples"
)

// The calls of the chapter, by their signatures.
var (
	_ func(api.Prog) bool                                    = onepass.Admits
	_ func(api.Prog, *inputs.Input, bool) ([]int, bool, int) = onepass.Match
)

// shown is a program, or a fit, as a text, which ends where it is long.
func shown(x any) string { return fmt.Sprintf("%.400s", fmt.Sprint(x)) }

// admits holds Admits of a program; of one that is not admitted nothing is told.
func admits(t *testing.T, p api.Prog, want bool) {
	t.Helper()
	if is := onepass.Admits(p); is != want {
		t.Errorf("Admits of %s: %t", shown(p), is)
	}
	if !want {
		tellsNothing(t, p, Made(t, ""))
		tellsNothing(t, p, Made(t, "ab"))
	}
	tellsNothing(t, p, nil)
}

// tellsNothing holds that Match tells nothing.
func tellsNothing(t *testing.T, p api.Prog, in *inputs.Input) {
	t.Helper()
	for _, longest := range []bool{false, true} {
		if fit, is, steps := onepass.Match(p, in, longest); len(fit) > 0 || is || steps != 0 {
			t.Errorf("Match of %s: %s, %t, %d", shown(p), shown(fit), is, steps)
		}
	}
}

// matches holds Match of an admitted program in one mode: a fit, or none; and in how many steps.
func matches(t *testing.T, p api.Prog, in *inputs.Input, longest bool, want []int) {
	t.Helper()
	fit, is, steps := onepass.Match(p, in, longest)
	if !slices.Equal(fit, want) || is != (want != nil) {
		t.Fatalf("Match of %s in %.100q, longest %t: %s, %t; not %s", shown(p), in.Bytes(0, in.Len()), longest, shown(fit), is, shown(want))
	}
	if most := api.StepsC * len(p.Insts) * (p.Caps + 1) * (in.Len() + 1); steps < 1 || steps > most {
		t.Errorf("Match of %s in %.100q, longest %t: %d steps; at most %d", shown(p), in.Bytes(0, in.Len()), longest, steps, most)
	}
	if _, _, again := onepass.Match(p, in, longest); again != steps {
		t.Errorf("Match of %s in %.100q, longest %t: %d steps, then %d", shown(p), in.Bytes(0, in.Len()), longest, steps, again)
	}
}

// bothMatch is matches in both modes, where they tell the same.
func bothMatch(t *testing.T, p api.Prog, in *inputs.Input, want []int) {
	t.Helper()
	matches(t, p, in, false, want)
	matches(t, p, in, true, want)
}

// behindBegin is a program that goes on as another one where a text begins.
func behindBegin(p api.Prog) api.Prog {
	p.Insts = append(slices.Clone(p.Insts), Stand(api.AtBegin, p.Start))
	p.Start = len(p.Insts) - 1
	return p
}

// TestExamples: the chapter's table.
func TestExamples(t *testing.T) {
	for pattern, want := range map[string]bool{"^a(b*)c": true, "a": false, "^a*a": false, "^(?:a|ab)": false} {
		p := ProgOf(t, pattern)
		admits(t, p, want)
	}
}
