package syntax_test

import (
	"strings"
	"testing"

	"martello/api"
	"martello/syntax"
)

// memoryPatterns are right ones, in which each kind of part stands more than once.
func memoryPatterns() []string {
	return []string{
		"", "k", "kkkk", "k|k|k", "[a-c][a-c]", "[^k][^k]|[^k]", `\d\d\w\W`, `\pL\PL\p{Lu}`, "...", "(?s)..", "(?i)kKsS", "(?i)[k][k]k", "(k)(k)", "((k|s)|(.))*", "k{2,3}k{2,3}?", "(?:kk)*(?:kk)*", `\Qkk\Ek`, `[^\x{0}-\x{10ffff}]\P{Any}`, "^$^$", "(?P<x>[ab])(?P<y>[ab]*)", "|||", "()()", "(?i:a)|(?s:.)|(?m:^)", strings.Repeat("[a]k", 200),
	}
}

// places are the elements of all lists of a tree, their spare room too, and how many lists have each.
type places struct {
	trees  map[*api.Tree]int
	ranges map[*api.Range]int
}

func newPlaces() places { return places{map[*api.Tree]int{}, map[*api.Range]int{}} }

func (p places) add(t api.Tree) {
	kids, set := t.Kids[:cap(t.Kids)], t.Set[:cap(t.Set)]
	for i := range kids {
		p.trees[&kids[i]]++
	}
	for i := range set {
		p.ranges[&set[i]]++
	}
	for _, kid := range t.Kids {
		p.add(kid)
	}
}

func (p places) apart() bool {
	for _, n := range p.trees {
		if n > 1 {
			return false
		}
	}
	for _, n := range p.ranges {
		if n > 1 {
			return false
		}
	}
	return true
}

// spoil overwrites all lists of a tree, and their spare room.
func spoil(t api.Tree) {
	for _, kid := range t.Kids {
		spoil(kid)
	}
	for i := range t.Set[:cap(t.Set)] {
		t.Set[:cap(t.Set)][i] = api.Range{Lo: -7, Hi: -9}
	}
	for i := range t.Kids[:cap(t.Kids)] {
		t.Kids[:cap(t.Kids)][i] = api.Tree{Op: 99}
	}
}

// TestApart: rule P3: no two lists of a tree share any, nor any with another tree that was told, their spare room too.
func TestApart(t *testing.T) {
	for _, s := range memoryPatterns() {
		for _, f := range []api.Flag{api.FlagPerl, api.FlagPerl | api.FlagFold, api.FlagLit, api.FlagLit | api.FlagFold} {
			all := newPlaces()
			for range 2 {
				tree, wrong := syntax.Parse(s, f)
				if wrong.E != api.OK {
					t.Fatalf("Parse(%q, %d): %+v", s, f, wrong)
				}
				all.add(tree)
			}
			if !all.apart() {
				t.Errorf("Parse(%q, %d): lists share", s, f)
			}
		}
	}
}

// TestChanged: rule P3: a tree that was told may be changed, and its spare room: what another call told, and what is told behind that, is as before.
func TestChanged(t *testing.T) {
	for _, s := range memoryPatterns() {
		for _, f := range []api.Flag{api.FlagPerl, api.FlagPerl | api.FlagFold, api.FlagLit, api.FlagLit | api.FlagFold} {
			first, _ := syntax.Parse(s, f)
			second, _ := syntax.Parse(s, f)
			was := show(first)
			spoil(first)
			if third := ask(s, f); show(second) != was || third != tells(was) {
				t.Errorf("Parse(%q, %d): %s, %v; not %s, when another answer was changed", s, f, show(second), third, was)
			}
		}
	}
}

// TestToldAgain: rule P3: the same call tells the same, whatever was asked between, an error too: groups' names and numbers, and flags, are of one call.
func TestToldAgain(t *testing.T) {
	asked := append(memoryPatterns(), "(?P<x>a)", "(?P<x>b)(?P<x>c)", "(", ")", "*", "a**", "a{2,1}", `\`, `\q`, "[", "[b-a]", "(?i", "(?P<", "\xff", strings.Repeat("(", 60)+strings.Repeat(")", 60), "a{1000}{", "(?:a{1000}){1000}", strings.Repeat("a", 1025), "(?imsU)", "((?i)")
	told := map[string]answer{}
	for range 3 {
		for _, s := range asked {
			got := ask(s, api.FlagPerl)
			if was, before := told[s]; before && got != was {
				t.Errorf("Parse(%q, 32): %v; was %v", s, got, was)
			}
			told[s] = got
			syntax.Parse(s, 61)
			if quoted := syntax.Quote(s); quoted != syntax.Quote(s) {
				t.Errorf("Quote(%q): %q", s, quoted)
			}
		}
	}
}

// TestAtOnce: rule P3: calls at the same time tell what they tell one by one.
func TestAtOnce(t *testing.T) {
	want := map[string]answer{}
	for _, s := range memoryPatterns() {
		want[s] = ask(s, api.FlagPerl)
	}
	wrong := make(chan string)
	for range 8 {
		go func() {
			bad := ""
			for s, w := range want {
				if ask(s, api.FlagPerl) != w {
					bad = s
				}
			}
			wrong <- bad
		}()
	}
	for range 8 {
		if s := <-wrong; s != "" {
			t.Errorf("Parse(%q, 32): told otherwise", s)
		}
	}
}
