package printer_test

import (
	"fmt"
	"testing"

	"martello/api"
)

// TestRepeats: P9.1: each repeat, lazy and not, over each Kid that stands between (?: and ) there, and over each that does not.
func TestRepeats(t *testing.T) {
	a, b := letter('a'), letter('b')
	for _, x := range []struct {
		kid  api.Tree
		want string
	}{
		{none(), `[^\x{0}-\x{10ffff}]`}, {empty(), "(?:)"}, {a, "a"}, {letter('*'), `\*`}, {letter('{'), `\{`}, {letter(0x10ffff), `\x{10ffff}`}, {set('a', 'b'), `[\x{61}-\x{62}]`}, {at(1), `\A`}, {at(2), `\z`}, {at(4), "(?m:^)"}, {at(8), "(?m:$)"}, {at(16), `\b`}, {at(32), `\B`},
		{grp(1, "", a), "(a)"}, {grp(1, "x", alt(a, b)), "(?P<x>a|b)"}, {grp(1, "", star(a)), "(a*)"}, {grp(1, "", cat(a, b)), "(ab)"}, {cat(), "(?:)"}, {cat(a), "a"}, {alt(a), "a"}, {cat(grp(1, "", b)), "(b)"},
		{star(a), "(?:a*)"}, {lazy(star(a)), "(?:a*?)"}, {plus(a), "(?:a+)"}, {lazy(plus(a)), "(?:a+?)"}, {quest(a), "(?:a?)"}, {lazy(quest(a)), "(?:a??)"}, {repeat(2, 3, a), "(?:a{2,3})"}, {lazy(repeat(2, -1, a)), "(?:a{2,}?)"}, {repeat(0, 0, a), "(?:a{0})"}, {star(star(a)), "(?:(?:a*)*)"}, {plus(grp(1, "", a)), "(?:(a)+)"}, {cat(star(a)), "(?:a*)"}, {alt(repeat(1, 1, a)), "(?:a{1})"},
		{cat(a, b), "(?:ab)"}, {cat(a, star(b)), "(?:ab*)"}, {cat(empty(), empty()), "(?:(?:)(?:))"}, {cat(cat(a, b)), "(?:ab)"}, {alt(a, b), "(?:a|b)"}, {alt(a, empty()), "(?:a|(?:))"}, {alt(alt(a, b)), "(?:a|b)"}, {cat(alt(a, b), a), "(?:(?:a|b)a)"}, {alt(cat(a, b), a), "(?:ab|a)"}, {cat(grp(1, "", a), b), "(?:(a)b)"},
	} {
		for _, r := range []struct {
			tree api.Tree
			sign string
		}{
			{star(x.kid), "*"}, {lazy(star(x.kid)), "*?"}, {plus(x.kid), "+"}, {lazy(plus(x.kid)), "+?"}, {quest(x.kid), "?"}, {lazy(quest(x.kid)), "??"},
			{repeat(2, 2, x.kid), "{2}"}, {lazy(repeat(2, 2, x.kid)), "{2}?"}, {repeat(2, -1, x.kid), "{2,}"}, {lazy(repeat(2, -1, x.kid)), "{2,}?"}, {repeat(2, 3, x.kid), "{2,3}"}, {lazy(repeat(2, 3, x.kid)), "{2,3}?"},
		} {
			prints(t, r.tree, x.want+r.sign)
			prints(t, cat(r.tree, letter('?')), x.want+r.sign+`\?`)
			again(t, r.tree)
			again(t, cat(letter('?'), r.tree, letter('+')))
		}
	}
}

// TestCounts: P9.1: each Min, with Max equal to it, -1, and above; decimal.
func TestCounts(t *testing.T) {
	a := letter('a')
	for _, x := range []struct {
		least, most int
		want        string
	}{
		{0, 0, "a{0}"}, {0, -1, "a{0,}"}, {0, 1, "a{0,1}"}, {0, 1000, "a{0,1000}"}, {1, 1, "a{1}"}, {1, -1, "a{1,}"}, {1, 2, "a{1,2}"}, {9, 10, "a{9,10}"}, {10, 10, "a{10}"}, {10, -1, "a{10,}"}, {16, 16, "a{16}"}, {99, 100, "a{99,100}"}, {100, 200, "a{100,200}"}, {255, 256, "a{255,256}"}, {999, 1000, "a{999,1000}"}, {1000, 1000, "a{1000}"}, {1000, -1, "a{1000,}"}, {7, 7, "a{7}"},
	} {
		prints(t, repeat(x.least, x.most, a), x.want)
		prints(t, lazy(repeat(x.least, x.most, a)), x.want+"?")
	}
	for least := range 1001 {
		for _, most := range []int{-1, least, least + 1, 10, 100, 256, 999, 1000} {
			if most != -1 && (most < least || most > 1000) {
				continue
			}
			text := fmt.Sprintf("a{%d,%d}", least, most)
			switch most {
			case -1:
				text = fmt.Sprintf("a{%d,}", least)
			case least:
				text = fmt.Sprintf("a{%d}", least)
			}
			prints(t, repeat(least, most, a), text)
			prints(t, lazy(repeat(least, most, a)), text+"?")
			again(t, lazy(repeat(least, most, a)))
		}
	}
}
