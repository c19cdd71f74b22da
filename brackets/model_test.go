package brackets_test

import (
	"slices"
	"strings"
	"testing"

	"martello/api"
	"martello/brackets"
	"martello/classes"
	"martello/scan"
	"martello/sets"
	"martello/tables"
)

// answer is one of Class.
type answer struct {
	set   []api.Range
	end   int
	wrong api.Wrong
}

func ask(s string, at int, f api.Flag) answer {
	set, end, wrong := brackets.Class(s, at, f)
	return answer{set, end, wrong}
}

// same: are two answers alike? A list without items may be nil or not.
func (a answer) same(b answer) bool {
	return slices.Equal(a.set, b.set) && a.end == b.end && a.wrong == b.wrong
}

// moved is the answer, if so many bytes more stand ahead of the class.
func (a answer) moved(ahead int) answer {
	if a.wrong.E == api.OK {
		a.end += ahead
		return a
	}
	a.wrong.From += ahead
	a.wrong.To += ahead
	return a
}

// turned is the answer to a text that begins with a class, if a ^ is put behind its [.
func (a answer) turned() answer {
	switch a.wrong.E {
	case api.OK:
		return answer{set: complement(a.set), end: a.end + 1}
	case api.ErrBracket: // it begins where the class does
		a.wrong.To++
		return a
	}
	return a.moved(1)
}

// folded is the answer with FlagFold.
func (a answer) folded() answer {
	a.set = tables.Fold(a.set)
	return a
}

// has is the answer of a class of so many bytes, with the ranges of these ends.
func has(end int, ends ...rune) answer { return answer{set: ranges(ends...), end: end} }

// wrongly is what is wrong, from a byte to another one.
func wrongly(e api.Errno, from, to int) answer {
	return answer{wrong: api.Wrong{E: e, From: from, To: to}}
}

// ranges are ranges, by their ends.
func ranges(ends ...rune) []api.Range {
	var l []api.Range
	for i := 0; i < len(ends); i += 2 {
		l = append(l, api.Range{Lo: ends[i], Hi: ends[i+1]})
	}
	return l
}

// complement is what lies between a set's ranges.
func complement(set []api.Range) []api.Range {
	var l []api.Range
	from := rune(0)
	for _, r := range set {
		if r.Lo > from {
			l = append(l, api.Range{Lo: from, Hi: r.Lo - 1})
		}
		from = r.Hi + 1
	}
	if from <= api.MaxRune {
		l = append(l, api.Range{Lo: from, Hi: api.MaxRune})
	}
	return l
}

// piece is what may stand in a class, cut off: a name between colons, an escape, a rune.
type piece struct {
	whole string
	kind  api.EscKind
	set   []api.Range // a rune's is that rune
	wrong api.Wrong   // its bytes are those of the piece
}

// cutNamed cuts a name between colons off, if one stands ahead.
func cutNamed(s string) (piece, bool) {
	body, opens := strings.CutPrefix(s, "[:")
	name, _, closes := strings.Cut(body, ":]")
	if !opens || !closes || strings.Trim(name, "abcdefghijklmnopqrstuvwxyz^") != "" {
		return piece{}, false
	}
	p := piece{whole: "[:" + name + ":]", kind: api.EscSet}
	set, is := classes.Posix(name)
	if p.set = set; !is {
		p.wrong = api.Wrong{E: api.ErrClassRange, To: len(p.whole)}
	}
	return p, true
}

// cutRune cuts a rune off, as it stands there.
func cutRune(s string) string {
	for i := range s {
		if i > 0 {
			return s[:i]
		}
	}
	return s
}

// cutOne cuts an escape or a rune off.
func cutOne(s string, perl bool) piece {
	if s[0] != '\\' {
		whole := cutRune(s)
		c := []rune(whole)[0]
		return piece{whole: whole, kind: api.EscRune, set: ranges(c, c)}
	}
	esc, end, wrong := scan.Escape(s, 0, perl)
	if esc.Kind == api.EscRune {
		esc.Set = ranges(esc.Rune, esc.Rune)
	}
	return piece{s[:end], esc.Kind, esc.Set, wrong}
}

// cutItem cuts an item off: a piece, or three of them.
func cutItem(s string, perl bool) piece {
	if p, is := cutNamed(s); is {
		return p
	}
	lo := cutOne(s, perl)
	if lo.wrong.E != api.OK || lo.kind == api.EscSet {
		return lo
	}
	if lo.kind != api.EscRune {
		lo.wrong = api.Wrong{E: api.ErrClassRange, To: len(lo.whole)}
		return lo
	}
	rest := s[len(lo.whole):]
	if len(rest) < 2 || rest[0] != '-' || rest[1] == ']' {
		return lo
	}
	ahead := len(lo.whole) + 1
	hi := cutOne(rest[1:], perl)
	all := piece{whole: s[:ahead+len(hi.whole)], wrong: hi.wrong}
	switch {
	case hi.wrong.E != api.OK:
		all.wrong.From += ahead
		all.wrong.To += ahead
	case hi.kind != api.EscRune || hi.set[0].Lo < lo.set[0].Lo:
		all.wrong = api.Wrong{E: api.ErrClassRange, To: len(all.whole)}
	default:
		all.set = ranges(lo.set[0].Lo, hi.set[0].Lo)
	}
	return all
}

// model is K1, from the text cut in pieces.
func model(s string, at int, f api.Flag) answer {
	rest, opens := strings.CutPrefix(s[at:], "[")
	if !opens {
		return wrongly(api.ErrArg, at, at)
	}
	rest, turned := strings.CutPrefix(rest, "^")
	var set []api.Range
	for items := 0; items == 0 || !strings.HasPrefix(rest, "]"); items++ {
		if rest == "" {
			return wrongly(api.ErrBracket, at, len(s))
		}
		p := cutItem(rest, f&32 != 0)
		if p.wrong.E != api.OK {
			ahead := len(s) - len(rest)
			return wrongly(p.wrong.E, ahead+p.wrong.From, ahead+p.wrong.To)
		}
		set = sets.Union(set, p.set)
		rest = rest[len(p.whole):]
	}
	a := answer{set: set, end: len(s) - len(rest) + 1}
	if f&1 != 0 {
		a = a.folded()
	}
	if turned {
		a.set = complement(a.set)
	}
	return a
}

// aheads are what may stand ahead of a class, behinds what may stand behind: nothing of it is looked at.
func aheads() []string {
	return []string{"", "a", "é", "\xff", "\xe2\x82", `\`, "[", "[^", "[[:", "]", "a-", "[a]"}
}

func behinds() []string {
	return []string{"]", "a", "-", "-z]", "\xff", `\`, `\d]`, "[", "[:alpha:]", ":]]", "}", "b-a]", "\x80"}
}

// flavours are both.
func flavours() []api.Flag { return []api.Flag{0, api.FlagPerl} }

// others are the flags that change nothing of a class: none, each alone, all.
func others() []api.Flag {
	return []api.Flag{0, api.FlagLit, api.FlagMulti, api.FlagDot, api.FlagSwap, api.FlagLit | api.FlagMulti | api.FlagDot | api.FlagSwap}
}

// is holds Class of a text against an answer.
func is(t *testing.T, s string, at int, f api.Flag, want answer) {
	t.Helper()
	if got := ask(s, at, f); !got.same(want) {
		t.Errorf("Class(%.80q, %d, %d): %x; not %x", s, at, f, got, want)
	}
}

// around holds Class of a text on flags against an answer: behind each of what may stand ahead; if it is a class, ahead of each of what may stand behind; on each other flag.
func around(t *testing.T, text string, f api.Flag, want answer) {
	t.Helper()
	if t.Failed() {
		return // one text that is told otherwise is enough to read
	}
	for _, ahead := range aheads() {
		is(t, ahead+text, len(ahead), f, want.moved(len(ahead)))
	}
	for _, behind := range behinds() {
		if want.wrong.E == api.OK {
			is(t, text[:want.end]+behind, 0, f, want)
		}
		if want.wrong.E == api.ErrClassRange {
			is(t, text[:want.wrong.To]+behind, 0, f, want)
		}
	}
	for _, other := range others() {
		is(t, text, 0, f|other, want)
	}
}

// holds holds Class of a text that begins with a [ and no ^, in these flavours, against an answer: as it is, with ^, with FlagFold, and with both.
func holds(t *testing.T, text string, perl []api.Flag, want answer) {
	t.Helper()
	turned := "[^" + text[1:]
	for _, f := range perl {
		around(t, text, f, want)
		around(t, turned, f, want.turned())
		around(t, text, f|api.FlagFold, want.folded())
		around(t, turned, f|api.FlagFold, want.folded().turned())
	}
}
