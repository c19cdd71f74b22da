package syntax_test

import (
	"fmt"
	"slices"
	"strings"
	"testing"

	"martello/api"
	"martello/syntax"
	"martello/trees"
)

// A tree is written as a text here, all its fields: a rune by itself, or as # and its number; a set as [41-5a]; a place as at1; cap1(a), cap2:x(a); star(a), lazy star?(a); {2,3}(a); cat(a b), alt(a b).
func show(t api.Tree) string {
	head, rest := "", t
	switch t.Op {
	case api.OpNone:
		head = "none"
	case api.OpEmpty:
		head = "empty"
	case api.OpRune:
		head, rest.Rune = showRune(t.Rune), 0
	case api.OpSet:
		head, rest.Set = showSet(t.Set), nil
	case api.OpAt:
		head, rest.At = fmt.Sprint("at", int(t.At)), 0
	case api.OpCap:
		head, rest.Cap, rest.Name = fmt.Sprint("cap", t.Cap), 0, ""
		if t.Name != "" {
			head += ":" + t.Name
		}
	case api.OpStar, api.OpPlus, api.OpQuest:
		head, rest.Lazy = []string{"star", "plus", "quest"}[t.Op-api.OpStar]+showLazy(t.Lazy), false
	case api.OpRepeat:
		head, rest.Min, rest.Max, rest.Lazy = fmt.Sprintf("{%d,%d}", t.Min, t.Max)+showLazy(t.Lazy), 0, 0, false
	case api.OpCat:
		head = "cat"
	case api.OpAlt:
		head = "alt"
	default:
		head = fmt.Sprint("op", int(t.Op))
	}
	if len(t.Kids) > 0 {
		head += "(" + showAll(t.Kids) + ")"
	}
	rest.Op, rest.Kids = 0, nil
	if rest.Rune != 0 || len(rest.Set) > 0 || rest.At != 0 || rest.Cap != 0 || rest.Name != "" || rest.Min != 0 || rest.Max != 0 || rest.Lazy {
		head += fmt.Sprintf("!%+v", rest)
	}
	return head
}

func showAll(all []api.Tree) string {
	var shown []string
	for _, t := range all {
		shown = append(shown, show(t))
	}
	return strings.Join(shown, " ")
}

func showRune(c rune) string {
	if c > ' ' && c < 127 && !strings.ContainsRune("()[]#", c) {
		return string(c)
	}
	return fmt.Sprintf("#%x", c)
}

func showSet(set []api.Range) string {
	var shown []string
	for _, r := range set {
		shown = append(shown, fmt.Sprintf("%x-%x", r.Lo, r.Hi))
	}
	return "[" + strings.Join(shown, " ") + "]"
}

func showLazy(lazy bool) string {
	if lazy {
		return "?"
	}
	return ""
}

// join writes atoms, or parts, as one tree: none as empty, one as it.
func join(op string, all ...string) string {
	switch len(all) {
	case 0:
		return "empty"
	case 1:
		return all[0]
	}
	return op + "(" + strings.Join(all, " ") + ")"
}

// numbered puts the numbers of groups in the places of @, in the order in which they stand.
func numbered(shown string) string {
	pieces := strings.Split(shown, "@")
	all := pieces[0]
	for i, piece := range pieces[1:] {
		all += fmt.Sprint(i+1) + piece
	}
	return all
}

// answer is one of Parse: a tree, as it is written here, or what is wrong.
type answer struct {
	tree  string
	wrong api.Wrong
}

// String is what a failing test prints of it.
func (a answer) String() string { return fmt.Sprintf("%.300s, %+v", a.tree, a.wrong) }

func ask(s string, f api.Flag) answer {
	tree, wrong := syntax.Parse(s, f)
	return answer{show(tree), wrong}
}

// tells is the answer with a tree, refuses the one with an error; zero is how a zero tree is written.
func tells(tree string) answer { return answer{tree: tree} }

const zero = "op0"

func refuses(e api.Errno, from, to int) answer {
	return answer{zero, api.Wrong{E: e, From: from, To: to}}
}

// whole is an error about the whole pattern.
func whole(e api.Errno, s string) answer { return refuses(e, 0, len(s)) }

// moved is the answer with an error, if so many bytes stand ahead; what is about the whole pattern still begins with it.
func (a answer) moved(ahead int) answer {
	if a.wrong.E != api.ErrParen {
		a.wrong.From += ahead
	}
	a.wrong.To += ahead
	return a
}

// holds holds Parse of a pattern against an answer, and against what must be so of every answer: P8.2, P8.4, and rule P2.
func holds(t *testing.T, s string, f api.Flag, want answer) {
	t.Helper()
	if t.Failed() {
		return // one pattern that is told otherwise is enough to read
	}
	tree, wrong := syntax.Parse(s, f)
	got := answer{show(tree), wrong}
	if got != want {
		t.Errorf("Parse(%.90q, %d): %v; not %v", s, f, got, want)
	}
	sound(t, s, f, tree, wrong)
}

// sound holds an answer against P8.2, P8.4 and rule P2 alone.
func sound(t *testing.T, s string, f api.Flag, tree api.Tree, wrong api.Wrong) {
	t.Helper()
	switch {
	case wrong.E == api.OK && wrong != (api.Wrong{}), wrong.E != api.OK && show(tree) != zero:
		t.Errorf("Parse(%.90q, %d): %+v beside %.300s", s, f, wrong, show(tree))
	case wrong.E == api.OK && !trees.Right(tree):
		t.Errorf("Parse(%.90q, %d): %.300s is not right", s, f, show(tree))
	case wrong.From < 0 || wrong.To < wrong.From || wrong.To > len(s):
		t.Errorf("Parse(%.90q, %d): %+v lies without", s, f, wrong)
	}
}

// each holds Parse of patterns, on each of these flags, against their answers.
func each(t *testing.T, flags []api.Flag, wants map[string]answer) {
	t.Helper()
	for s, want := range wants {
		for _, f := range flags {
			holds(t, s, f, want)
		}
	}
}

// sums are all sums of flags that have all of with and none of without.
func sums(with, without api.Flag) []api.Flag {
	var all []api.Flag
	for f := range api.FlagAll + 1 {
		if f&with == with && f&without == 0 {
			all = append(all, f)
		}
	}
	return all
}

// Flags by what they change: any in which a text is not one alone, in both flavours or in one of them; and without those that change atoms and repeats.
func anyFlags() []api.Flag   { return sums(0, api.FlagLit) }
func anyPerl() []api.Flag    { return sums(api.FlagPerl, api.FlagLit) }
func anyPlain() []api.Flag   { return sums(0, api.FlagLit|api.FlagPerl) }
func greedy() []api.Flag     { return sums(0, api.FlagLit|api.FlagFold|api.FlagSwap) }
func greedyPerl() []api.Flag { return sums(api.FlagPerl, api.FlagLit|api.FlagFold|api.FlagSwap) }
func unfolded() []api.Flag   { return sums(0, api.FlagLit|api.FlagFold) }

// ranges are ranges, by their ends.
func ranges(ends ...rune) []api.Range {
	var l []api.Range
	for i := 0; i < len(ends); i += 2 {
		l = append(l, api.Range{Lo: ends[i], Hi: ends[i+1]})
	}
	return l
}

// alike is the set of these runes, as it is written.
func alike(runes ...rune) string {
	slices.Sort(runes)
	var l []api.Range
	for _, c := range runes {
		if n := len(l); n > 0 && l[n-1].Hi == c-1 {
			l[n-1].Hi = c
		} else {
			l = append(l, api.Range{Lo: c, Hi: c})
		}
	}
	return showSet(l)
}
