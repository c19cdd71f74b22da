package prefix_test

import (
	"math"
	"slices"
	"strings"
	"testing"

	"martello/api"
	"martello/inputs"
	"martello/prefix"
	. "martello/samples"
)

// places are those of an input, and what is none, ahead and behind.
func places(in *inputs.Input) []int {
	l := []int{math.MinInt, math.MinInt32, -2, -1}
	for i := range in.Len() + 3 {
		l = append(l, i)
	}
	return append(l, in.Len()+64, math.MaxInt32, math.MaxInt-1, math.MaxInt)
}

// asIndexed holds Index from all places against the model.
func asIndexed(t *testing.T, in *inputs.Input, l []rune) {
	t.Helper()
	for _, from := range places(in) {
		stands(t, in, l, from, modelIndex(in, l, from))
	}
}

// TestIndex: F2, written out.
func TestIndex(t *testing.T) {
	for _, x := range []struct {
		text, what string
		from, want int
	}{
		{"abcabc", "abc", 0, 0}, {"abcabc", "abc", 1, 3}, {"abcabc", "abc", 3, 3}, {"abcabc", "abc", 4, -1}, {"abcabc", "abc", -5, 0}, {"abcabc", "abc", 6, -1}, {"abcabc", "abc", 7, -1},
		{"abcabc", "c", 0, 2}, {"abcabc", "c", 3, 5}, {"abcabc", "c", 5, 5}, {"abcabc", "c", 6, -1}, {"abcabc", "abcabc", 0, 0}, {"abcabc", "abcabc", 1, -1}, {"abcabc", "abcabcd", 0, -1}, {"abcabc", "xabcabc", 0, -1}, {"abcabc", "d", 0, -1},
		{"aaaa", "aa", 0, 0}, {"aaaa", "aa", 1, 1}, {"aaaa", "aa", 2, 2}, {"aaaa", "aa", 3, -1}, {"aaab", "ab", 0, 2}, {"aaab", "aab", 0, 1}, {"abab", "bab", 0, 1}, {"xabcabd", "abd", 0, 4}, {"abacababc", "ababc", 0, 4},
		{"é世é世x", "世x", 0, 3}, {"é世é世x", "世", 2, 3}, {"a\xffb\ufffd", "\ufffd", 0, 1}, {"a\xffb\ufffd", "\ufffd", 2, 3}, {"\xe4\xb8", "\ufffd\ufffd", 0, 0}, {"\u212ak", "k", 0, 1}, {"K", "k", 0, -1},
		{"", "", 0, 0}, {"", "", -1, 0}, {"", "", 1, -1}, {"", "a", 0, -1}, {"ab", "", 0, 0}, {"ab", "", -7, 0}, {"ab", "", 1, 1}, {"ab", "", 2, 2}, {"ab", "", 3, -1},
	} {
		stands(t, Made(t, x.text), []rune(x.what), x.from, x.want)
	}
}

// TestShortTexts: P14.1 of F2: all short lists in all short texts, from each place.
func TestShortTexts(t *testing.T) {
	var lists [][]rune
	for _, s := range Texts(4, "a", "b", "é") {
		lists = append(lists, []rune(s))
	}
	for _, text := range Texts(7, "a", "b") {
		for _, l := range lists {
			asIndexed(t, Made(t, text), l)
		}
	}
	for _, text := range Texts(5, "a", "é", "b") {
		for _, l := range lists {
			asIndexed(t, Made(t, text), l)
		}
	}
}

// TestOddRunes: P14.1 of F2: texts that are no UTF-8, runes that have none, and what is no rune: that stands nowhere, not even behind the end.
func TestOddRunes(t *testing.T) {
	odd := []rune{-1, -2, math.MinInt32, 0, 'a', 0xff, 0xd800, 0xdfff, 0xfffd, 0x10ffff, 0x110000, math.MaxInt32}
	for _, text := range Texts(3, "\xff", "a", "\ufffd", "\x00", "\U0010ffff", "\xed\xa0\x80") {
		in := Made(t, text)
		for _, c := range odd {
			asIndexed(t, in, []rune{c})
			for _, d := range odd {
				asIndexed(t, in, []rune{c, d})
			}
		}
	}
	for _, c := range []rune{-1, math.MinInt32, 0x110000} {
		stands(t, Made(t, "ab"), []rune{'b', c}, 0, -1)
		stands(t, Made(t, "ab"), []rune{c, 'a'}, 0, -1)
		stands(t, Made(t, ""), []rune{c}, 0, -1)
	}
}

// repeating are texts that have much in common with themselves.
func repeating() []string {
	fib, other := "a", "ab"
	for range 6 {
		fib, other = other, other+fib
	}
	return []string{"abacabadabacabaeabacabadabacaba", strings.Repeat("ab", 15), strings.Repeat("aab", 10) + "aaab", strings.Repeat("a", 30), strings.Repeat("a", 14) + "b" + strings.Repeat("a", 15), strings.Repeat("é\xff世", 10), other, "mississippi mississippi"}
}

// TestWhatStands: P14.3: Index of what stands at a place is no greater than it; from there it is just that.
func TestWhatStands(t *testing.T) {
	for _, text := range repeating() {
		in := Made(t, text)
		for i := range in.Len() + 1 {
			for j := i; j <= in.Len(); j++ {
				l := between(in, i, j)
				for from := -1; from <= i; from++ {
					if at := prefix.Index(in, l, from); at > i || at < max(from, 0) {
						t.Fatalf("%q: Index of %q from %d: %d", text, l, from, at)
					}
				}
				stands(t, in, l, i, i)
				stands(t, in, append(l, '!'), 0, -1)
				stands(t, in, append([]rune{'!'}, l...), 0, -1)
			}
		}
	}
}

// TestRepeating: P14.1 of F2: what stands in such texts, with one rune of it another one.
func TestRepeating(t *testing.T) {
	for _, text := range repeating() {
		in := Made(t, text)
		for i := 0; i < in.Len(); i += 3 {
			for j := i; j <= in.Len(); j += 2 {
				l := between(in, i, j)
				asIndexed(t, in, l)
				for k := range l {
					for _, c := range []rune{'a', 'b', 0xfffd} {
						other := slices.Clone(l)
						other[k] = c
						stands(t, in, other, 0, modelIndex(in, other, 0))
					}
				}
			}
		}
	}
}

// TestKinds: rule P3: an input's kind changes nothing.
func TestKinds(t *testing.T) {
	for _, text := range []string{"", "abcabc", "é\xffaé\xff"} {
		for _, k := range Kinds() {
			in, e := inputs.New(k, []byte(text))
			if e != api.OK {
				t.Fatal(e)
			}
			for _, what := range []string{"", "c", "bc", "é\ufffd", "x"} {
				asIndexed(t, in, []rune(what))
			}
		}
	}
}
