package printer_test

import (
	"fmt"
	"slices"
	"strings"
	"testing"

	"martello/api"
	"martello/printer"
	. "martello/samples"
	"martello/syntax"
	"martello/trees"
)

// flat is what a right tree's text is read as: of an OpCat in an OpCat, and of an OpAlt in an OpAlt, the Kids stand in its place; of one Kid there is just it, of none an OpEmpty.
func flat(t api.Tree) api.Tree {
	var kids []api.Tree
	joins := t.Op == api.OpCat || t.Op == api.OpAlt
	for _, kid := range t.Kids {
		kid = flat(kid)
		if joins && kid.Op == t.Op {
			kids = append(kids, kid.Kids...)
		} else {
			kids = append(kids, kid)
		}
	}
	switch {
	case joins && len(kids) == 0:
		return Empty()
	case joins && len(kids) == 1:
		return kids[0]
	}
	t.Kids = kids
	return t
}

// again holds a right tree's text, if it is not above MaxPat, against P9.2: read again it is the tree, but that what is written as one is one, with the same groups and names; and that prints to the same text.
func again(t *testing.T, tree api.Tree) {
	t.Helper()
	text, e := printer.Print(tree)
	if e != api.OK {
		t.Errorf("Print of %.400s: %d", fmt.Sprint(tree), e)
	}
	if len(text) > api.MaxPat {
		return
	}
	read, wrong := syntax.Parse(text, api.FlagPerl)
	if wrong.E != api.OK {
		t.Errorf("Parse of %q, printed of %.400s: %+v", text, fmt.Sprint(tree), wrong)
		return
	}
	if !Same(read, flat(tree)) {
		t.Errorf("%q is read as %.400s; printed of %.400s", text, fmt.Sprint(read), fmt.Sprint(tree))
	}
	if names := trees.Caps(tree); !slices.Equal(trees.Caps(read), names) {
		t.Errorf("%q is read with the groups %q; not %q", text, trees.Caps(read), names)
	}
	if more, e := printer.Print(read); more != text || e != api.OK {
		t.Errorf("%q, read again, is printed as %q, %d", text, more, e)
	}
}

// thereAndBack holds the tree of a pattern, if it is one, on these flags, against P9.1 and P9.2. It tells how many texts could be read again, and how many are too long.
func thereAndBack(t *testing.T, s string, flags ...api.Flag) (short, long int) {
	t.Helper()
	for _, f := range flags {
		tree, wrong := syntax.Parse(s, f)
		if wrong.E != api.OK || t.Failed() {
			continue
		}
		text := rewritten(tree).text
		prints(t, tree, text)
		again(t, tree)
		if len(text) <= api.MaxPat {
			short++
		} else {
			long++
		}
	}
	return short, long
}

// allFlags are all sums of them.
func allFlags() []api.Flag {
	var all []api.Flag
	for f := range api.FlagAll + 1 {
		all = append(all, f)
	}
	return all
}

// someFlags are a few sums: of the flavour and without, each flag in one at least.
func someFlags() []api.Flag { return []api.Flag{0, 2, 12, 17, 32, 33, 35, 36, 40, 48, 61} }

// TestAgain: P9.2: patterns of each kind under all flags; and beside others, and as their Kids.
func TestAgain(t *testing.T) {
	read := 0
	for i, s := range Patterns() {
		short, _ := thereAndBack(t, s, allFlags()...)
		read += short
		more := Patterns()[(i*7+3)%len(Patterns())]
		for _, around := range []string{"(" + s + ")", "(?:" + s + ")", "(?:" + s + ")*", "(?:" + s + "){2,3}?", "(?P<out>" + s + "|)+", "x" + s, s + "|" + s, "(?i:" + s + ")", "(?mU)" + s, s + more, s + "|" + more, "(?:" + s + ")(?:" + more + ")", "(?:" + s + "|" + more + ")y"} {
			short, _ := thereAndBack(t, around, someFlags()...)
			read += short
		}
		if t.Failed() {
			return
		}
	}
	if read < 20000 {
		t.Errorf("%d texts were read again", read)
	}
}

// TestAgainShort: P9.2: all short patterns of these pieces.
func TestAgainShort(t *testing.T) {
	pieces := []string{"a", "k", "é", "-", "{", "\n", ".", "^", "$", `\b`, `\pL`, "[^k]", `[^\x{0}-\x{10ffff}]`, "|", "*", "?", "+", "{2}", "{1,}", "{0,3}", "(", ")", "(?:", "(?i:", "(?m)", "(?P<x>", "(?<y>", `\Q.`, `\E`}
	for _, s := range Texts(2, pieces...) {
		thereAndBack(t, s, allFlags()...)
	}
	for _, s := range Texts(3, pieces...) {
		thereAndBack(t, s, 0, 29, 32, 33, 61)
	}
	for _, s := range Texts(6, "a", "|", "*", "(", ")") {
		thereAndBack(t, s, 0)
	}
	for _, s := range Texts(6, "k", "|", "??", "(?:", ")", "(") {
		thereAndBack(t, s, 33)
	}
}

// TestAgainText: P9.2: with FlagLit whatever bytes a pattern has.
func TestAgainText(t *testing.T) {
	for _, s := range append(Patterns(), strings.Repeat("(", 400), "a\x00\x7f\u0080\u00ad\ufeff\ufffd\U0010ffff", "(?:)", `\x{61}`, "{2}") {
		thereAndBack(t, s, 2, 3, 34, 63)
	}
}

// TestAgainLength: P9.2: texts of up to 1024 bytes; and of more, which are printed, too, though no pattern may be so long.
func TestAgainLength(t *testing.T) {
	short, long := 0, 0
	for _, s := range []string{".", "é", "(?i)k", "$", `\w`, "[^a]", "(?m)^", "(.)", "a", `\.`, "(?:a|b)", "|"} {
		for _, n := range []int{1, 2, 10, 35, 36, 50, 100, 170, 204, 205, 300, 341, 512, 1023, 1024} {
			if len(s)*n <= api.MaxPat {
				some, others := thereAndBack(t, strings.Repeat(s, n), api.FlagPerl|api.FlagMulti)
				short, long = short+some, long+others
			}
		}
	}
	if short < 50 || long < 50 {
		t.Errorf("%d texts were read again, %d are too long", short, long)
	}
	for n := 1000; n <= 1030; n++ {
		tree := Star(Cat(slices.Repeat([]api.Tree{Letter('a')}, n-len("(?:)*"))...))
		prints(t, tree, "(?:"+strings.Repeat("a", n-len("(?:)*"))+")*")
		again(t, tree)
	}
}
