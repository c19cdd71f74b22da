package denote_test

import (
	"slices"
	"strings"
	"testing"

	"martello/api"
	"martello/denote"
	. "martello/samples"
)

// TestExamples: the chapter's table.
func TestExamples(t *testing.T) {
	lists(t, Parsed(t, "a*"), 0, "aab", 0, "2, 1, 0")
	lists(t, Parsed(t, "(|a)+"), 0, "aa", 0, "0, 2, 1")
	lists(t, Parsed(t, "(a*)*"), 1, "a", 0, "1 0-1, 0 .")
	lists(t, Parsed(t, "(?:a*?)*"), 0, "aa", 0, "1, 2, 0")
	lists(t, Parsed(t, "(a|ab)(c|bcd)?"), 0, "abcd", 0, "4, 1, 3, 2")
	lists(t, Parsed(t, "(a|ab)(c|bcd)?"), 2, "abcd", 0, "4 0-1 1-4, 1 0-1 ., 3 0-2 2-3, 2 0-2 .")
}

// TestExamplesOfTheWhole: what the document's first page finds.
func TestExamplesOfTheWhole(t *testing.T) {
	for _, x := range []struct {
		pattern string
		groups  int
		text    string
		from    int
		longest bool
		want    []int
	}{
		{"(a|ab)(c|bcd)?", 2, "abcd", 0, false, []int{0, 4, 0, 1, 1, 4}},
		{"a|ab", 0, "ab", 0, false, []int{0, 1}}, {"a|ab", 0, "ab", 0, true, []int{0, 2}},
		{"(|a)+", 1, "aa", 0, false, []int{0, 0, 0, 0}},
		{"(?:a*?)*", 0, "aa", 0, false, []int{0, 1}},
		{"(a*)+b", 1, strings.Repeat("a", 30), 0, false, nil},
		{"a*", 0, "baac", 0, false, []int{0, 0}}, {"a*", 0, "baac", 1, false, []int{1, 3}}, {"a*", 0, "baac", 4, false, []int{4, 4}},
		{"(?i)k", 0, "xk", 0, false, []int{1, 2}}, {"(?i)k", 0, "xK", 0, false, []int{1, 2}}, {"(?i)k", 0, "x\u212a", 0, false, []int{1, 2}},
		{`\b`, 0, "a b", 0, false, []int{0, 0}}, {`\b`, 0, "a b", 1, false, []int{1, 1}}, {`\b`, 0, "a b", 2, false, []int{2, 2}}, {`\b`, 0, "a b", 3, false, []int{3, 3}},
		{"(?P<x>a)(b)?", 2, "ab-a", 0, false, []int{0, 2, 0, 1, 1, 2}}, {"(?P<x>a)(b)?", 2, "ab-a", 2, false, []int{3, 4, 3, 4, -1, -1}},
	} {
		tree := Parsed(t, x.pattern)
		fit, ok := denote.Find(tree, x.groups, Made(t, x.text), x.from, x.longest)
		if ok != (x.want != nil) || !slices.Equal(fit, x.want) {
			t.Errorf("%s in %q from %d, longest %t: %v, %t; not %v", x.pattern, x.text, x.from, x.longest, fit, ok, x.want)
		}
		finds(t, tree, x.groups, Made(t, x.text))
	}
}

// from holds what a tree fits from each place of a text: a list for each.
func from(t *testing.T, tree api.Tree, text string, want ...string) {
	t.Helper()
	if n := Made(t, text).Len() + 1; n != len(want) {
		t.Fatalf("%q has %d places", text, n)
	}
	for at, list := range want {
		lists(t, tree, 0, text, at, list)
	}
}

// TestRunes: OpNone, OpEmpty, OpRune and OpSet from each place, also between bytes that are no runes, ahead of the last place and at it.
func TestRunes(t *testing.T) {
	a := Letter('a')
	from(t, None(), "", "")
	from(t, None(), "a\xff", "", "", "")
	from(t, Empty(), "", "0")
	from(t, Empty(), "a\xff\xc3\n", "0", "1", "2", "3", "4")
	from(t, a, "", "")
	from(t, a, "a", "1", "")
	from(t, a, "ba\xffa", "", "2", "", "4", "")
	from(t, Letter('A'), "aA", "", "2", "")
	from(t, Letter('é'), "é\xc3\xa9\xa9\xc3é", "1", "2", "", "", "5", "")
	from(t, Letter(0xfffd), "\xffa\xc3\ufffd\xe2\x82", "1", "", "3", "4", "5", "6", "")
	from(t, Letter(0), "\x00\x01", "1", "", "")
	from(t, Letter(0x10ffff), "\U0010ffff\xf4\x90", "1", "", "", "")
	from(t, Letter('\n'), "\n\r\n", "1", "", "3", "")
	from(t, Set('b', 'd', 'x', 'x', '世', '界'), "abcdewxy世界", "", "2", "3", "4", "", "", "7", "", "9", "10", "")
	from(t, Set('b', 'b'), "abc\xff", "", "2", "", "", "")
	from(t, Set(0, 0x10ffff), "a\xff\n\x00", "1", "2", "3", "4", "")
	from(t, Set(0, 0x60, 0x62, 0xfffc, 0xfffe, 0x10ffff), "ab\xffé", "", "2", "", "4", "")
	from(t, Set(0xfffd, 0xfffd), "\xffa\xff", "1", "", "3", "")
}

// TestSets: each range of a set of many, its ends and what is beside them.
func TestSets(t *testing.T) {
	for n := range 9 {
		var ends []rune
		for i := range n + 1 {
			ends = append(ends, rune('A'+4*i), rune('A'+4*i+1))
		}
		for c := rune('A' - 2); c < rune('A'+4*n+8); c++ {
			want := ""
			if c >= 'A' && int(c-'A')/4 <= n && (c-'A')%4 <= 1 {
				want = "1"
			}
			lists(t, Set(ends...), 0, string(c), 0, want)
		}
	}
}

// TestAt: each At, over line feeds, words, both ends, and bytes that are no runes.
func TestAt(t *testing.T) {
	for _, x := range []struct {
		text string
		at   api.At
		want string // the places at which it is so
	}{
		{"", api.AtBegin, "0"}, {"", api.AtEnd, "0"}, {"", api.AtBeginLine, "0"}, {"", api.AtEndLine, "0"}, {"", api.AtWord, ""}, {"", api.AtNoWord, "0"},
		{"\n", api.AtBegin, "0"}, {"\n", api.AtEnd, "1"}, {"\n", api.AtBeginLine, "01"}, {"\n", api.AtEndLine, "01"}, {"\n", api.AtWord, ""}, {"\n", api.AtNoWord, "01"},
		{"ab\n c\n", api.AtBegin, "0"}, {"ab\n c\n", api.AtEnd, "6"}, {"ab\n c\n", api.AtBeginLine, "036"}, {"ab\n c\n", api.AtEndLine, "256"}, {"ab\n c\n", api.AtWord, "0245"}, {"ab\n c\n", api.AtNoWord, "136"},
		{"\xff9\xffé_", api.AtBegin, "0"}, {"\xff9\xffé_", api.AtEnd, "5"}, {"\xff9\xffé_", api.AtBeginLine, "0"}, {"\xff9\xffé_", api.AtEndLine, "5"}, {"\xff9\xffé_", api.AtWord, "1245"}, {"\xff9\xffé_", api.AtNoWord, "03"},
		{"a\r\nZ", api.AtBeginLine, "03"}, {"a\r\nZ", api.AtEndLine, "24"}, {"a\r\nZ", api.AtWord, "0134"}, {"a\r\nZ", api.AtNoWord, "2"},
	} {
		for at := range Made(t, x.text).Len() + 1 {
			want, digit := "", string(rune('0'+at))
			if strings.Contains(x.want, digit) {
				want = digit
			}
			lists(t, At(x.at), 0, x.text, at, want)
			lists(t, Cat(At(x.at), At(x.at)), 0, x.text, at, want)
		}
	}
	from(t, Cat(At(api.AtEndLine), Letter('\n'), At(api.AtBeginLine)), "a\n\n", "", "2", "3", "")
	from(t, Cat(Star(Set('a', 'z')), At(api.AtWord)), "ab c", "2, 0", "2", "2", "4, 3", "4")
}

// TestRows: an OpCat of none, of one, of several, and in another one.
func TestRows(t *testing.T) {
	a, b := Letter('a'), Letter('b')
	either := Alt(Cat(a, b), a)
	from(t, Cat(), "a", "0", "1")
	from(t, Cat(Cat(), Cat(Cat())), "a", "0", "1")
	from(t, Cat(a), "ab", "1", "", "")
	from(t, Cat(a, b), "aab", "", "3", "", "")
	from(t, Cat(a, Empty(), Cat(b, Cat(), a)), "abab", "3", "", "", "", "")
	from(t, Cat(a, None()), "ab", "", "", "")
	from(t, Cat(None(), a), "ab", "", "", "")
	from(t, Cat(either, Quest(b)), "abb", "3, 2, 1", "", "", "")
	from(t, Cat(Star(a), Star(b), Star(a)), "aba", "3, 2, 1, 0", "3, 2, 1", "3, 2", "3")
	from(t, Cat(Alt(a, a), Alt(b, b), Alt(a, a)), "aba", "3", "", "", "")
}

// TestChoices: an OpAlt, an OpQuest in their order, greedy and lazy; what ends at one place stands there once, by the first way.
func TestChoices(t *testing.T) {
	a, b, ab := Letter('a'), Letter('b'), Cat(Letter('a'), Letter('b'))
	from(t, Alt(a), "ab", "1", "", "")
	from(t, Alt(a, ab), "ab", "1, 2", "", "")
	from(t, Alt(ab, a), "ab", "2, 1", "", "")
	from(t, Alt(Empty(), ab, a), "ab", "0, 2, 1", "1", "2")
	from(t, Alt(a, Empty(), ab), "ab", "1, 0, 2", "1", "2")
	from(t, Alt(None(), a, None()), "ab", "1", "", "")
	from(t, Alt(None(), None()), "ab", "", "", "")
	from(t, Alt(b, Alt(ab, Alt(Empty(), a))), "ab", "2, 0, 1", "2, 1", "2")
	lists(t, Alt(Group(1, "", a), Group(2, "", a)), 2, "a", 0, "1 0-1 .")
	lists(t, Alt(Group(2, "", a), Group(1, "", a)), 2, "a", 0, "1 . 0-1")
	lists(t, Cat(Alt(Cat(Group(1, "", a), Group(2, "", b)), Group(3, "", ab)), Alt(a, Empty())), 3, "aba", 0, "3 0-1 1-2 ., 2 0-1 1-2 .")
	from(t, Quest(a), "ab", "1, 0", "1", "2")
	from(t, Lazy(Quest(a)), "ab", "0, 1", "1", "2")
	from(t, Quest(Alt(a, ab)), "ab", "1, 2, 0", "1", "2")
	from(t, Lazy(Quest(Alt(a, ab))), "ab", "0, 1, 2", "1", "2")
	from(t, Quest(None()), "a", "0", "1")
	from(t, Quest(Quest(a)), "a", "1, 0", "1")
	from(t, Quest(Lazy(Quest(a))), "a", "0, 1", "1")
	from(t, Lazy(Quest(Quest(a))), "a", "0, 1", "1")
	lists(t, Parsed(t, "()?"), 1, "", 0, "0 0-0")
	lists(t, Parsed(t, "()??"), 1, "", 0, "0 .")
	lists(t, Parsed(t, "(a)?(ab)?"), 2, "ab", 0, "1 0-1 ., 2 . 0-2, 0 . .")
}
