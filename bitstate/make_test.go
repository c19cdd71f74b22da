package bitstate_test

import (
	"fmt"
	"slices"
	"testing"

	"martello/api"
	"martello/bitstate"
	"martello/inputs"
	. "martello/samples"
)

// The calls of the chapter, by their signatures.
var (
	_ func(api.Prog, *inputs.Input) bool                                                   = bitstate.Admits
	_ func() *bitstate.Machine                                                             = bitstate.New
	_ func(*bitstate.Machine, api.Prog, *inputs.Input, int, bool, bool) ([]int, bool, int) = (*bitstate.Machine).Find
)

// used is a machine that is asked all questions of all tests, one behind the other: what it did earlier changes no answer.
var used = bitstate.New()

// question is how a program and an input are asked.
type question struct {
	from              int
	anchored, longest bool
}

// questions are all from a place.
func questions(from int) []question {
	return []question{{from, false, false}, {from, false, true}, {from, true, false}, {from, true, true}}
}

// shown is a program, or a fit, as a text, which ends where it is long.
func shown(x any) string { return fmt.Sprintf("%.400s", fmt.Sprint(x)) }

// shownText is what an input has, which ends where it is long.
func shownText(in *inputs.Input) string { return fmt.Sprintf("%.100q", in.Bytes(0, in.Len())) }

// admits holds Admits of a program and an input; of what is not admitted nothing is told.
func admits(t *testing.T, p api.Prog, in *inputs.Input, want bool) {
	t.Helper()
	if is := bitstate.Admits(p, in); is != want {
		t.Errorf("Admits of %d instructions, %s: %t", len(p.Insts), shown(p), is)
	}
	if !want {
		tellsNothing(t, p, in)
	}
}

// tellsNothing holds that nothing is told, whatever is asked.
func tellsNothing(t *testing.T, p api.Prog, in *inputs.Input) {
	t.Helper()
	for _, m := range []*bitstate.Machine{bitstate.New(), used} {
		for _, q := range slices.Concat(questions(0), questions(1), questions(-1)) {
			if fit, is, steps := m.Find(p, in, q.from, q.anchored, q.longest); len(fit) > 0 || is || steps != 0 {
				t.Errorf("%+v of %s: %s, %t, %d", q, shown(p), shown(fit), is, steps)
			}
		}
	}
}

// finds holds what is found of what is admitted: a fit, or none; in how many steps; and that a new machine, and one that was asked all else, tell the same.
func finds(t *testing.T, p api.Prog, in *inputs.Input, q question, want []int) {
	t.Helper()
	fit, is, steps := bitstate.New().Find(p, in, q.from, q.anchored, q.longest)
	if !slices.Equal(fit, want) || is != (want != nil) {
		t.Fatalf("%+v of %s in %s: %s, %t; not %s", q, shown(p), shownText(in), shown(fit), is, shown(want))
	}
	if most := api.StepsC * len(p.Insts) * (p.Caps + 1) * (in.Len() + 1); steps < 0 || steps > most || is && steps == 0 {
		t.Errorf("%+v of %s in %s: %d steps; at most %d", q, shown(p), shownText(in), steps, most)
	}
	again, still, others := used.Find(p, in, q.from, q.anchored, q.longest)
	if !slices.Equal(again, fit) || still != is || others != steps {
		t.Fatalf("%+v of %s in %s: %s, %t, %d; of a new machine %s, %t, %d", q, shown(p), shownText(in), shown(again), still, others, shown(fit), is, steps)
	}
}

// bothFind is finds in both modes, where they tell the same, from a place on.
func bothFind(t *testing.T, p api.Prog, in *inputs.Input, from int, want []int) {
	t.Helper()
	finds(t, p, in, question{from, false, false}, want)
	finds(t, p, in, question{from, false, true}, want)
}

// walked are the walk's matches from each place, in one mode.
func walked(p api.Prog, in *inputs.Input, longest bool) [][]int {
	var all [][]int
	for at := range in.Len() + 1 {
		all = append(all, WalksMatch(p, in, at, longest))
	}
	return all
}

// modelFind is I2 by its words: of the walk's matches from each place the one from the least place that is asked for.
func modelFind(walks [][]int, q question) []int {
	for at, match := range walks {
		if match != nil && (at == q.from || at > q.from && !q.anchored) {
			return match
		}
	}
	return nil
}

// asModelled holds a program against the model, from each place of texts, and from beside them; it tells whether there is a match of any.
func asModelled(t *testing.T, p api.Prog, texts ...string) bool {
	t.Helper()
	some := false
	for _, text := range texts {
		in := Made(t, text)
		first, farthest := walked(p, in, false), walked(p, in, true)
		for from := -1; from <= in.Len()+1; from++ {
			for _, q := range questions(from) {
				want := modelFind(first, q)
				if q.longest {
					want = modelFind(farthest, q)
				}
				finds(t, p, in, q, want)
				some = some || want != nil
			}
		}
	}
	return some
}
