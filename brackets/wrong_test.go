package brackets_test

import (
	"strings"
	"testing"
	"unicode/utf8"

	"martello/api"
	"martello/samples"
	"martello/sets"
)

// TestEnd: K1: the text's end behind each part of a class; what is wrong is the whole, from its [, but where the end cuts an escape.
func TestEnd(t *testing.T) {
	for _, text := range []string{
		"[", "[a", "[ab", "[]", "[]a", "[-", "[a-", "[a-c", "[a-c-", "[--", "[---", "[[", "[[:", "[[:digit", "[[:digit:", "[[:digit:]", "[[:digit:]-", "[[:^digit:]a", "[é", "[é-", "[\xff", "[\xc3", "[a-\xe4\xb8", "[:", "[:a:", "[\x00", "[}", "[\n",
		`[\n`, `[\]`, `[\-`, `[\\`, `[\x41`, `[\x{41}`, `[\x41-`, `[\x41-\x43`, `[\pL`, `[\p{Lu}`, `[\P{Any}`, `[\pL-`, `[a\]`, `[A-\]`, "[" + strings.Repeat("a-z", 5000), "[" + strings.Repeat("[", 5000), "[" + strings.Repeat("-", 5000), "[" + strings.Repeat("^", 5000),
	} {
		holds(t, text, flavours(), wrongly(api.ErrBracket, 0, len(text)))
	}
	for _, text := range []string{"[^", "[^a", "[^]", "[^^", "[^-", "[^a-", "[^[:digit:]", `[^\n`} {
		for _, f := range flavours() {
			around(t, text, f, wrongly(api.ErrBracket, 0, len(text)))
		}
	}
	for text, want := range map[string]answer{`[\`: wrongly(api.ErrTrail, 1, 2), `[a\`: wrongly(api.ErrTrail, 2, 3), `[a-\`: wrongly(api.ErrTrail, 3, 4), `[b-a\`: wrongly(api.ErrClassRange, 1, 4), `[\x`: wrongly(api.ErrEscape, 1, 3), `[\x4`: wrongly(api.ErrEscape, 1, 3), `[\x{41`: wrongly(api.ErrEscape, 1, 3), `[\p`: wrongly(api.ErrEscape, 1, 3), `[a-\p{L`: wrongly(api.ErrEscape, 3, 5), `[]\`: wrongly(api.ErrTrail, 2, 3), `[[:digit:]\`: wrongly(api.ErrTrail, 10, 11)} {
		holds(t, text, flavours(), want)
	}
}

// TestCut: K1: a class of all kinds of items, cut at each of its bytes: ErrBracket, but within an escape its own error.
func TestCut(t *testing.T) {
	const text = `[^]a-zé-世-[:alpha:][:^digit:][:b\n\x41-\x{5A}\p{Lu}\PL\d\W[-` + "\xff]"
	whole := ask(text, 0, api.FlagPerl)
	if whole.wrong.E != api.OK || whole.end != len(text) {
		t.Fatalf("%q: %x", text, whole)
	}
	within := map[int]answer{}
	for _, esc := range []string{`\n`, `\x41`, `\x{5A}`, `\p{Lu}`, `\PL`, `\d`, `\W`} {
		begin := strings.Index(text, esc)
		within[begin+1] = wrongly(api.ErrTrail, begin, begin+1)
		for end := begin + 2; end < begin+len(esc); end++ {
			within[end] = wrongly(api.ErrEscape, begin, begin+2)
		}
	}
	for end := 1; end < len(text); end++ {
		want, cut := within[end]
		if !cut {
			want = wrongly(api.ErrBracket, 0, end)
		}
		for _, other := range others() {
			is(t, text[:end], 0, other|api.FlagPerl, want)
			is(t, text[:end], 0, other|api.FlagPerl|api.FlagFold, want)
		}
		is(t, "é[a]"+text[:end], 5, api.FlagPerl, want.moved(5))
	}
}

// TestFirstError: K1: of two errors the first one, from the left.
func TestFirstError(t *testing.T) {
	wrongs := []struct {
		item string
		e    api.Errno
		long int
	}{
		{"b-a", api.ErrClassRange, 3}, {"世-é", api.ErrClassRange, 6}, {"[:x:]", api.ErrClassRange, 5}, {"[::]", api.ErrClassRange, 4}, {`\b`, api.ErrClassRange, 2}, {`\Q`, api.ErrClassRange, 2}, {`a-\d`, api.ErrClassRange, 4}, {`!-\pL`, api.ErrClassRange, 5}, {`!-\z`, api.ErrClassRange, 4},
		{`\q`, api.ErrEscape, 2}, {`\x4g`, api.ErrEscape, 2}, {`\x{110000}`, api.ErrEscape, 2}, {`\px`, api.ErrProperty, 3}, {`\p{x}`, api.ErrProperty, 5},
	}
	for _, a := range wrongs {
		for _, b := range wrongs {
			want := wrongly(a.e, 1, 1+a.long)
			for _, between := range []string{"", "z", "[:digit:]", `\d`, "0-9", "]"} {
				holds(t, "["+a.item+between+b.item+"]", perlAlone, want)
				holds(t, "["+a.item+between+b.item, perlAlone, want)
				holds(t, "[z"+a.item+between+b.item+`\`, perlAlone, want.moved(1))
			}
			if t.Failed() {
				return
			}
		}
	}
	for text, want := range map[string]answer{
		`[b-\q]`: wrongly(api.ErrEscape, 3, 5), `[b-\px]`: wrongly(api.ErrProperty, 3, 6), `[b-\`: wrongly(api.ErrTrail, 3, 4), `[\q-a]`: wrongly(api.ErrEscape, 1, 3), `[\b-\q]`: wrongly(api.ErrClassRange, 1, 3), `[\d-\q]`: wrongly(api.ErrEscape, 4, 6), `[b-a-\q]`: wrongly(api.ErrClassRange, 1, 4), "[b-a": wrongly(api.ErrClassRange, 1, 4), "[[:x:]": wrongly(api.ErrClassRange, 1, 6), `[\b`: wrongly(api.ErrClassRange, 1, 3), "[a]b-a]": has(3, 'a', 'a'), `[a]\q`: has(3, 'a', 'a'), `[a]\`: has(3, 'a', 'a'), "[a][": has(3, 'a', 'a'), "[a][:x:]]": has(3, 'a', 'a'),
	} {
		holds(t, text, perlAlone, want)
	}
}

// TestShort: K1, and rules P1 and P2: every short text that begins with a [, some not, in both flavours, with FlagFold and without, at each of its places, against the model; what is wrong lies in the text, and beside it all is zero.
func TestShort(t *testing.T) {
	var all []string
	for _, s := range samples.Texts(5, "[", "]", "^", "-", ":", `\`, "d", "b", "é", "\xff") {
		all = append(all, "["+s)
	}
	for _, s := range samples.Texts(4, "[:alpha:]", "[:^digit:]", "[:x:]", "[:", ":]", `\d`, `\x41`, `\x{6b}`, `\PL`, `\Q`, `\`, "-", "]", "k", "^", "世") {
		all = append(all, "["+s, "[^"+s+"]")
	}
	for _, s := range samples.Texts(4, "-", "]", "a", "\\", "x", "4", "p", "{", "}", "L") {
		all = append(all, `[a-`+s, `[\`+s, `[\p{`+s, s+"[a]")
	}
	for i, s := range all {
		short(t, s, 0, api.FlagPerl)
		for at := range min(len(s), 3) + 1 {
			short(t, s, at, []api.Flag{0, api.FlagFold, api.FlagPerl, api.FlagFold | api.FlagPerl}[(i+at)%4])
		}
		if t.Failed() {
			return
		}
	}
}

// short holds Class against the model, and against the rules.
func short(t *testing.T, s string, at int, f api.Flag) {
	t.Helper()
	is(t, s, at, f, model(s, at, f))
	got := ask(s, at, f)
	if got.wrong.E == api.OK {
		if got.wrong != (api.Wrong{}) || got.end < at+3 || got.end > len(s) || s[got.end-1] != ']' || !sets.Right(got.set) {
			t.Errorf("Class(%q, %d, %d): %x", s, at, f, got)
		}
		return
	}
	from, to := got.wrong.From, got.wrong.To
	if len(got.set) > 0 || got.end != 0 || from < at || to < from || to > len(s) || utf8.ValidString(s) && !utf8.ValidString(s[from:to]) {
		t.Errorf("Class(%q, %d, %d): %x", s, at, f, got)
	}
}
