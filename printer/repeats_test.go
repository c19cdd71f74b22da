package printer_test

import (
	"fmt"
	"testing"

	"martello/api"
	. "martello/samples"
)

// TestRepeats: P9.1: each repeat, lazy and not, over each Kid that stands between (?: and ) there, and over each that does not.
func TestRepeats(t *testing.T) {
	a, b := Letter('a'), Letter('b')
	for _, x := range []struct {
		kid  api.Tree
		want string
	}{
		{None(), `[^\x{0}-\x{10ffff}]`}, {Empty(), "(?:)"}, {a, "a"}, {Letter('*'), `\*`}, {Letter('{'), `\{`}, {Letter(0x10ffff), `\x{10ffff}`}, {Set('a', 'b'), `[\x{61}-\x{62}]`}, {At(1), `\A`}, {At(2), `\z`}, {At(4), "(?m:^)"}, {At(8), "(?m:$)"}, {At(16), `\b`}, {At(32), `\B`},
		{Group(1, "", a), "(a)"}, {Group(1, "x", Alt(a, b)), "(?P<x>a|b)"}, {Group(1, "", Star(a)), "(a*)"}, {Group(1, "", Cat(a, b)), "(ab)"}, {Cat(), "(?:)"}, {Cat(a), "a"}, {Alt(a), "a"}, {Cat(Group(1, "", b)), "(b)"},
		{Star(a), "(?:a*)"}, {Lazy(Star(a)), "(?:a*?)"}, {Plus(a), "(?:a+)"}, {Lazy(Plus(a)), "(?:a+?)"}, {Quest(a), "(?:a?)"}, {Lazy(Quest(a)), "(?:a??)"}, {Repeat(2, 3, a), "(?:a{2,3})"}, {Lazy(Repeat(2, -1, a)), "(?:a{2,}?)"}, {Repeat(0, 0, a), "(?:a{0})"}, {Star(Star(a)), "(?:(?:a*)*)"}, {Plus(Group(1, "", a)), "(?:(a)+)"}, {Cat(Star(a)), "(?:a*)"}, {Alt(Repeat(1, 1, a)), "(?:a{1})"},
		{Cat(a, b), "(?:ab)"}, {Cat(a, Star(b)), "(?:ab*)"}, {Cat(Empty(), Empty()), "(?:(?:)(?:))"}, {Cat(Cat(a, b)), "(?:ab)"}, {Alt(a, b), "(?:a|b)"}, {Alt(a, Empty()), "(?:a|(?:))"}, {Alt(Alt(a, b)), "(?:a|b)"}, {Cat(Alt(a, b), a), "(?:(?:a|b)a)"}, {Alt(Cat(a, b), a), "(?:ab|a)"}, {Cat(Group(1, "", a), b), "(?:(a)b)"},
	} {
		for _, r := range []struct {
			tree api.Tree
			sign string
		}{
			{Star(x.kid), "*"}, {Lazy(Star(x.kid)), "*?"}, {Plus(x.kid), "+"}, {Lazy(Plus(x.kid)), "+?"}, {Quest(x.kid), "?"}, {Lazy(Quest(x.kid)), "??"},
			{Repeat(2, 2, x.kid), "{2}"}, {Lazy(Repeat(2, 2, x.kid)), "{2}?"}, {Repeat(2, -1, x.kid), "{2,}"}, {Lazy(Repeat(2, -1, x.kid)), "{2,}?"}, {Repeat(2, 3, x.kid), "{2,3}"}, {Lazy(Repeat(2, 3, x.kid)), "{2,3}?"},
		} {
			prints(t, r.tree, x.want+r.sign)
			prints(t, Cat(r.tree, Letter('?')), x.want+r.sign+`\?`)
			again(t, r.tree)
			again(t, Cat(Letter('?'), r.tree, Letter('+')))
		}
	}
}

// TestCounts: P9.1: each Min, with Max equal to it, -1, and above; decimal.
func TestCounts(t *testing.T) {
	a := Letter('a')
	for _, x := range []struct {
		least, most int
		want        string
	}{
		{0, 0, "a{0}"}, {0, -1, "a{0,}"}, {0, 1, "a{0,1}"}, {0, 1000, "a{0,1000}"}, {1, 1, "a{1}"}, {1, -1, "a{1,}"}, {1, 2, "a{1,2}"}, {9, 10, "a{9,10}"}, {10, 10, "a{10}"}, {10, -1, "a{10,}"}, {16, 16, "a{16}"}, {99, 100, "a{99,100}"}, {100, 200, "a{100,200}"}, {255, 256, "a{255,256}"}, {999, 1000, "a{999,1000}"}, {1000, 1000, "a{1000}"}, {1000, -1, "a{1000,}"}, {7, 7, "a{7}"},
	} {
		prints(t, Repeat(x.least, x.most, a), x.want)
		prints(t, Lazy(Repeat(x.least, x.most, a)), x.want+"?")
	}
	for least := range 1001 {
		for _, most := range []int{-1, least, least + 1, 10, 100, 256, 999, 1000} {
			if most != -1 && (most < least || most > 1000) {
				continue
			}
			text := fmt.Sprintf("a{%d,%d}", least, most)
			switch most {
			case -1:
				text = fmt.Sprintf("a{%d,}", least)
			case least:
				text = fmt.Sprintf("a{%d}", least)
			}
			prints(t, Repeat(least, most, a), text)
			prints(t, Lazy(Repeat(least, most, a)), text+"?")
			again(t, Lazy(Repeat(least, most, a)))
		}
	}
}
