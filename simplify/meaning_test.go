package simplify_test

import (
	"fmt"
	"slices"
	"strings"
	"testing"

	"martello/api"
	. "martello/samples"
	"martello/simplify"
	"martello/trees"
)

// The meaning of a tree, as layer 11 has it: its ways, one by one, each with what it came to. Nothing of it is kept for another way, so that it is slow, and as plain as the words are.

// step is what a way came to last, and what ahead of that.
type step struct {
	part, place int
	ahead       *step
}

// been: did the way come to it?
func (s *step) been(part, place int) bool {
	for ; s != nil; s = s.ahead {
		if s.part == part && s.place == place {
			return true
		}
	}
	return false
}

// way is where one is: what was come to, and the groups' places.
type way struct {
	place  int
	groups []int
	was    *step
}

type onward func(way)

// meaning is what ways are asked of.
type meaning struct {
	text  []rune
	parts int
	steps int
}

// part is a part's ways, from where a way comes to it: each of its ends is told.
func (m *meaning) part(ways func(way, onward)) func(way, onward) {
	m.parts++
	number := m.parts
	return func(w way, on onward) {
		m.steps++
		if w.was.been(number, w.place) || m.steps > 1<<13 {
			return
		}
		w.was = &step{number, w.place, w.was}
		ways(w, on)
	}
}

// of is a tree as a part, of which each copy of a repeat's Kid is one of its own.
func (m *meaning) of(t api.Tree) func(way, onward) {
	if t.Op == api.OpRepeat {
		return m.repeat(t)
	}
	var kids []func(way, onward)
	for _, kid := range t.Kids {
		kids = append(kids, m.of(kid))
	}
	switch t.Op {
	case api.OpEmpty:
		return m.part(func(w way, on onward) { on(w) })
	case api.OpRune:
		return m.part(func(w way, on onward) { m.read(w, []api.Range{{Lo: t.Rune, Hi: t.Rune}}, on) })
	case api.OpSet:
		return m.part(func(w way, on onward) { m.read(w, t.Set, on) })
	case api.OpAt:
		return m.part(func(w way, on onward) {
			if m.at(w.place)&t.At != 0 {
				on(w)
			}
		})
	case api.OpCap:
		return m.part(func(w way, on onward) {
			w.groups = slices.Clone(w.groups)
			w.groups[2*t.Cap] = w.place
			kids[0](w, func(w way) {
				w.groups = slices.Clone(w.groups)
				w.groups[2*t.Cap+1] = w.place
				on(w)
			})
		})
	case api.OpStar:
		return m.star(t.Lazy, kids[0])
	case api.OpPlus:
		return m.plus(t.Lazy, kids[0])
	case api.OpQuest:
		return m.quest(t.Lazy, kids[0])
	case api.OpCat:
		return m.cat(kids)
	case api.OpAlt:
		return m.part(func(w way, on onward) {
			for _, kid := range kids {
				kid(w, on)
			}
		})
	}
	return m.part(func(way, onward) {})
}

func (m *meaning) read(w way, set []api.Range, on onward) {
	if w.place < len(m.text) && slices.ContainsFunc(set, func(r api.Range) bool { return r.Lo <= m.text[w.place] && m.text[w.place] <= r.Hi }) {
		w.place++
		on(w)
	}
}

// at is what a place is; all letters of the texts here are parts of words.
func (m *meaning) at(i int) api.At {
	all, last := api.AtNoWord, len(m.text)
	word := func(i int) bool { return i >= 0 && i < last && m.text[i] != '\n' }
	if word(i-1) != word(i) {
		all = api.AtWord
	}
	if i == 0 {
		all |= api.AtBegin
	}
	if i == last {
		all |= api.AtEnd
	}
	return all
}

func (m *meaning) cat(kids []func(way, onward)) func(way, onward) {
	return m.part(func(w way, on onward) {
		var from func(int) onward
		from = func(i int) onward {
			if i == len(kids) {
				return on
			}
			return func(w way) { kids[i](w, from(i+1)) }
		}
		from(0)(w)
	})
}

// first asks one ahead of the other, or, lazy, the other way round.
func first(slow bool, more, stop func()) {
	if slow {
		more, stop = stop, more
	}
	more()
	stop()
}

func (m *meaning) quest(slow bool, kid func(way, onward)) func(way, onward) {
	return m.part(func(w way, on onward) { first(slow, func() { kid(w, on) }, func() { on(w) }) })
}

func (m *meaning) star(slow bool, kid func(way, onward)) func(way, onward) {
	var again func(way, onward)
	again = m.part(func(w way, on onward) {
		first(slow, func() { kid(w, func(w way) { again(w, on) }) }, func() { on(w) })
	})
	return again
}

func (m *meaning) plus(slow bool, kid func(way, onward)) func(way, onward) {
	var asks func(way, onward)
	asks = m.part(func(w way, on onward) {
		first(slow, func() { kid(w, func(w way) { asks(w, on) }) }, func() { on(w) })
	})
	return m.part(func(w way, on onward) { kid(w, func(w way) { asks(w, on) }) })
}

// repeat is a counted repeat, taken apart.
func (m *meaning) repeat(t api.Tree) func(way, onward) {
	kid := t.Kids[0]
	var all []func(way, onward)
	for range t.Min - 1 {
		all = append(all, m.of(kid))
	}
	switch {
	case t.Max == 0:
		return m.cat(nil)
	case t.Max < 0 && t.Min == 0:
		return m.star(t.Lazy, m.of(kid))
	case t.Max < 0:
		return m.cat(append(all, m.plus(t.Lazy, m.of(kid))))
	case t.Min > 0:
		all = append(all, m.of(kid))
	}
	rest := m.cat(nil)
	for range t.Max - t.Min {
		rest = m.quest(t.Lazy, m.cat([]func(way, onward){m.of(kid), rest}))
	}
	return m.cat(append(all, rest))
}

// fits are the fits of a tree's ways from a place, in order; of those that end at one place the first one.
func fits(t api.Tree, groups int, text string, from int) (list []string, all bool) {
	m := &meaning{text: []rune(text)}
	ends := []int{}
	m.of(t)(way{place: from, groups: slices.Repeat([]int{-1}, 2*groups+2)}, func(w way) {
		if !slices.Contains(ends, w.place) {
			ends = append(ends, w.place)
			list = append(list, fmt.Sprint(w.place, w.groups))
		}
	})
	return list, m.steps < 1<<13
}

// fitsAlike holds what a tree fits against what is told of it fits.
func fitsAlike(t *testing.T, tree api.Tree, texts ...string) (asked int) {
	t.Helper()
	told, groups := simplify.Simple(tree), len(trees.Caps(tree))-1
	for _, text := range texts {
		for from := range len(text) + 1 {
			want, all := fits(tree, groups, text, from)
			have, whole := fits(told, groups, text, from)
			if !all || !whole {
				continue
			}
			asked++
			if !slices.Equal(have, want) {
				t.Errorf("%s in %q from %d fits %v; made simple, %s, it fits %v", Shown(tree), text, from, want, Shown(told), have)
			}
		}
	}
	return asked
}

// TestMeaning: P10.3: what is told fits what the tree fits, in that order and with the same groups, from each place of small texts.
func TestMeaning(t *testing.T) {
	for n, each := range []int{1, 1, 1, 211} {
		for _, tree := range Around(n, each) {
			fitsAlike(t, tree, "", "a", "xa", "aax")
		}
	}
}

// TestMeaningOfPatterns: P10.3: of patterns in which what is left out stands among loops and groups.
func TestMeaningOfPatterns(t *testing.T) {
	for _, pattern := range []string{
		"(a|ab)(c|bcd)?", "(|a)+", "(|a)+?", "(|a)*", "(a*)*", "(a*)+", "(?:a*?)*", "(?:a*?)+", "(a*?)*?", "(a|b|)*", "(a|(b)|)+", "((a)|b)*", "(a{0,2}){0,2}", "(a{0,2}?){2}", "(a?){3}", "(a??){1,3}?", "((|a)*|b){2,}", `(\b|a)*`, `(?:(\b)|a)+`, `(\b)*a`, `(?:\b*a)*`, `(^|a){2,}`, "(?:(a){0}b|a)*", "(a|){2,3}?b?", "(a{1,2}|b{0,1}){0,3}", "(?:(a)|(b)){3}", "(?:(a)|(b)){1,}?",
	} {
		if fitsAlike(t, read(t, pattern, api.FlagPerl), "", "a", "b", "ab", "ba", "aab", "abcd", "\nab") < 20 {
			t.Error(pattern, "takes too many steps")
		}
	}
	ways, _ := fits(read(t, "(a|ab)(c|bcd)?", api.FlagPerl), 2, "abcd", 0) // the example of layer 11
	if strings.Join(ways, " ") != "4 [-1 -1 0 1 1 4] 1 [-1 -1 0 1 -1 -1] 3 [-1 -1 0 2 2 3] 2 [-1 -1 0 2 -1 -1]" {
		t.Error(ways)
	}
	for _, x := range []struct{ pattern, text, want string }{{"a*", "aab", "2 1 0"}, {"(?:|a)+", "aa", "0 2 1"}, {"(?:a*?)*", "aa", "1 2 0"}} {
		var ends []string
		ways, _ := fits(read(t, x.pattern, api.FlagPerl), 0, x.text, 0)
		for _, w := range ways {
			end, _, _ := strings.Cut(w, " ")
			ends = append(ends, end)
		}
		if strings.Join(ends, " ") != x.want {
			t.Error(x.pattern, ends)
		}
	}
}
