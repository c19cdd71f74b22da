package onepass_test

import (
	"slices"
	"testing"

	"martello/api"
	"martello/onepass"
	. "martello/samples"
	"martello/sets"
)

// comings are how often one comes to each instruction from one, by all ways but through some InstAts: a way that has come to one twice ends there.
func comings(p api.Prog, from int, closed api.At) []int {
	often := make([]int, len(p.Insts))
	var come func(pc int)
	come = func(pc int) {
		if often[pc]++; often[pc] > 1 {
			return
		}
		switch i := p.Insts[pc]; {
		case i.Op == api.InstAlt:
			come(i.Out)
			come(i.Arg)
		case i.Op == api.InstCap, i.Op == api.InstAt && i.At&closed == 0:
			come(i.Out)
		}
	}
	come(from)
	return often
}

// modelAdmits is H1 by its words.
func modelAdmits(p api.Prog) bool {
	for pc, often := range comings(p, p.Start, api.AtBegin) {
		if op := p.Insts[pc].Op; often > 0 && (op == api.InstSet || op == api.InstMatch) {
			return false
		}
	}
	places := []int{p.Start}
	for n := 0; n < len(places); n++ {
		var read []api.Inst
		matches := 0
		for pc, often := range comings(p, places[n], 0) {
			i := p.Insts[pc]
			if often > 1 || often == 1 && i.Op == api.InstMatch && matches == 1 {
				return false
			}
			if often == 1 && i.Op == api.InstMatch {
				matches++
			}
			if often == 1 && i.Op == api.InstSet {
				read = append(read, i)
			}
		}
		for n, i := range read {
			if slices.ContainsFunc(read[:n], func(other api.Inst) bool { return len(sets.Meet(i.Set, other.Set)) > 0 }) {
				return false
			}
			if !slices.Contains(places, i.Out) {
				places = append(places, i.Out)
			}
		}
	}
	return true
}

// asModelled holds a right program against the model: what is admitted, what it finds, and P15.3; it tells whether it is admitted.
func asModelled(t *testing.T, p api.Prog, texts ...string) bool {
	t.Helper()
	is := modelAdmits(p)
	admits(t, p, is)
	if !is || t.Failed() {
		return is
	}
	for _, text := range texts {
		in := Made(t, text)
		for _, longest := range []bool{false, true} {
			matches(t, p, in, longest, WalksMatch(p, in, 0, longest))
		}
		for from := range in.Len() {
			if found := Walked(p, in, from+1); len(found) > 0 {
				t.Fatalf("%s in %q from %d: %v", shown(p), text, from+1, found)
			}
		}
	}
	return is
}

// repertoire are more instructions of a program of n: sets that have no rune in common, the place where a text begins.
func repertoire(n int) []api.Inst {
	list := Repertoire(n)
	for out := range n {
		list = append(list, Read(out, 'c', 'd'), Stand(api.AtBegin, out))
	}
	return list
}

// TestSmall: P15.1, P15.3: all programs of up to two instructions, and some of three and more, as they are and where a text begins.
func TestSmall(t *testing.T) {
	texts := Texts(3, "a", "b", "c")
	for i, each := range []int{1, 1, 3, 211, 30011, 4000037} {
		all, some := 0, 0
		SmallPrograms(i+1, each, repertoire(i+1), func(p api.Prog) {
			for _, p := range []api.Prog{p, behindBegin(p)} {
				all++
				if asModelled(t, p, texts...) {
					some++
				}
				if t.Failed() {
					t.FailNow()
				}
			}
		})
		if some < all/50 || some < 3 || some == all {
			t.Errorf("%d instructions: %d of %d are admitted", i+1, some, all)
		}
	}
}

// TestMade: P15.1, P15.3: programs that hang together by a rule, most of which fork and read.
func TestMade(t *testing.T) {
	texts := append(Texts(4, "a", "b", "c", "d"), "abcdabcd", "ddccbbaa")
	some := 0
	for n := 4; n <= 9; n++ {
		for seed := range 1000 {
			if asModelled(t, behindBegin(Ruled(n, seed)), texts...) {
				some++
			}
			if t.Failed() {
				t.FailNow()
			}
		}
	}
	if some < 300 {
		t.Errorf("%d are admitted", some)
	}
}

// TestModel: the model itself, of the chapter's examples.
func TestModel(t *testing.T) {
	for pattern, want := range map[string]bool{"^a(b*)c": true, "a": false, "^a*a": false, "^(?:a|ab)": false} {
		if p := ProgOf(t, pattern); modelAdmits(p) != want || onepass.Admits(p) != want {
			t.Error(pattern)
		}
	}
}
