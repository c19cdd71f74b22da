package scan_test

import (
	"math/big"
	"slices"
	"strings"
	"testing"

	"martello/api"
	"martello/classes"
	"martello/scan"
)

// escaped is an answer of Escape, counted one of Count, named one of Name, flagged one of Flags.
type escaped struct {
	esc   api.Esc
	end   int
	wrong api.Wrong
}

type counted struct {
	least, most, end int
	is               bool
}

type named struct {
	name  string
	end   int
	wrong api.Wrong
}

type flagged struct {
	flags  api.Flag
	begins bool
	end    int
	wrong  api.Wrong
}

func askEscape(s string, at int, perl bool) escaped {
	esc, end, wrong := scan.Escape(s, at, perl)
	return escaped{esc, end, wrong}
}

func askCount(s string, at int) counted {
	least, most, end, is := scan.Count(s, at)
	return counted{least, most, end, is}
}

func askName(s string, at int) named {
	name, end, wrong := scan.Name(s, at)
	return named{name, end, wrong}
}

func askFlags(s string, at int, f api.Flag) flagged {
	flags, begins, end, wrong := scan.Flags(s, at, f)
	return flagged{flags, begins, end, wrong}
}

// same: are two answers of Escape alike? A list without items may be nil or not.
func (a escaped) same(b escaped) bool {
	return a.esc.Kind == b.esc.Kind && a.esc.Rune == b.esc.Rune && a.esc.At == b.esc.At && slices.Equal(a.esc.Set, b.esc.Set) && a.end == b.end && a.wrong == b.wrong
}

// wrongly is what is wrong, from a byte to another one.
func wrongly(e api.Errno, from, to int) escaped {
	return escaped{wrong: api.Wrong{E: e, From: from, To: to}}
}

// ranges are ranges, by their ends.
func ranges(ends ...rune) []api.Range {
	var l []api.Range
	for i := 0; i < len(ends); i += 2 {
		l = append(l, api.Range{Lo: ends[i], Hi: ends[i+1]})
	}
	return l
}

const (
	signs     = "!\"#$%&'()*+,-./" + ":;<=>?@" + "[\\]^_`" + "{|}~"
	hexDigits = "0123456789abcdefABCDEF"
	decDigits = "0123456789"
	letters   = "abcdefghijklmnopqrstuvwxyzABCDEFGHIJKLMNOPQRSTUVWXYZ_"
)

// plainEscapes are the escapes of one rune behind the backslash in both flavours, perlEscapes those that are in one alone.
func plainEscapes() map[rune]api.Esc {
	all := map[rune]api.Esc{'a': {Rune: 7}, 'f': {Rune: 0xc}, 'n': {Rune: 0xa}, 'r': {Rune: 0xd}, 't': {Rune: 9}, 'v': {Rune: 0xb}}
	for _, c := range signs {
		all[c] = api.Esc{Rune: c}
	}
	for c, esc := range all {
		esc.Kind = api.EscRune
		all[c] = esc
	}
	return all
}

func perlEscapes() map[rune]api.Esc {
	return map[rune]api.Esc{
		'd': {Kind: api.EscSet, Set: ranges('0', '9')}, 'D': {Kind: api.EscSet, Set: ranges(0, 0x2f, 0x3a, 0x10ffff)},
		's': {Kind: api.EscSet, Set: ranges(9, 0xa, 0xc, 0xd, 0x20, 0x20)}, 'S': {Kind: api.EscSet, Set: ranges(0, 8, 0xb, 0xb, 0xe, 0x1f, 0x21, 0x10ffff)},
		'w': {Kind: api.EscSet, Set: ranges('0', '9', 'A', 'Z', '_', '_', 'a', 'z')}, 'W': {Kind: api.EscSet, Set: ranges(0, 0x2f, 0x3a, 0x40, 0x5b, 0x5e, 0x60, 0x60, 0x7b, 0x10ffff)},
		'A': {Kind: api.EscAt, At: 1}, 'z': {Kind: api.EscAt, At: 2}, 'b': {Kind: api.EscAt, At: 16}, 'B': {Kind: api.EscAt, At: 32}, 'Q': {Kind: api.EscQuote},
	}
}

// onlyOf: are there any bytes, and all of them some of these?
func onlyOf(s, some string) bool { return s != "" && strings.Trim(s, some) == "" }

// cutRune is a text's first rune, as it stands there, and the rest.
func cutRune(s string) (string, string) {
	for i := range s {
		if i > 0 {
			return s[:i], s[i:]
		}
	}
	return s, ""
}

// escapeModel is C1, from the text cut in pieces.
type escapeModel struct{ plain, perl map[rune]api.Esc }

func newEscapeModel() escapeModel { return escapeModel{plainEscapes(), perlEscapes()} }

func (m escapeModel) of(s string, at int, perl bool) escaped {
	rest, is := strings.CutPrefix(s[at:], `\`)
	if !is {
		return wrongly(api.ErrArg, at, at)
	}
	if rest == "" {
		return wrongly(api.ErrTrail, at, at+1)
	}
	first, rest := cutRune(rest)
	c := []rune(first)[0]
	behind := len(s) - len(rest)
	esc, is := m.plain[c]
	if perl && !is {
		esc, is = m.perl[c]
	}
	switch {
	case is:
		return escaped{esc: esc, end: behind}
	case c == 'x':
		if digits, whole := hexModel(rest); whole > 0 {
			n, _ := new(big.Int).SetString(digits, 16)
			if n.Cmp(big.NewInt(0x10ffff)) <= 0 {
				return escaped{esc: api.Esc{Kind: api.EscRune, Rune: rune(n.Int64())}, end: behind + whole}
			}
		}
	case c == 'p' || c == 'P':
		if name, whole := propertyModel(rest); whole > 0 {
			set, is := classes.Property(name, c == 'P')
			if !is {
				return wrongly(api.ErrProperty, at, behind+whole)
			}
			return escaped{esc: api.Esc{Kind: api.EscSet, Set: set}, end: behind + whole}
		}
	}
	return wrongly(api.ErrEscape, at, behind)
}

// hexModel are the digits behind \x, and how many bytes they are with their braces; 0, if there are none.
func hexModel(rest string) (string, int) {
	if body, is := strings.CutPrefix(rest, "{"); is {
		if digits, _, closed := strings.Cut(body, "}"); closed && onlyOf(digits, hexDigits) {
			return digits, len(digits) + 2
		}
	} else if len(rest) >= 2 && onlyOf(rest[:2], hexDigits) {
		return rest[:2], 2
	}
	return "", 0
}

// propertyModel is the name behind \p, and how many bytes it is with its braces; 0, if there is none.
func propertyModel(rest string) (string, int) {
	if body, is := strings.CutPrefix(rest, "{"); is {
		if name, _, closed := strings.Cut(body, "}"); closed {
			return name, len(name) + 2
		}
		return "", 0
	}
	name, _ := cutRune(rest)
	return name, len(name)
}

// countModel is C2, from what stands between the braces.
func countModel(s string, at int) counted {
	body, opens := strings.CutPrefix(s[at:], "{")
	body, _, closes := strings.Cut(body, "}")
	least, most, two := strings.Cut(body, ",")
	if !opens || !closes || !onlyOf(least, decDigits) || most != "" && !onlyOf(most, decDigits) {
		return counted{}
	}
	answer := counted{timesModel(least), timesModel(least), at + len(body) + 2, true}
	if two {
		answer.most = -1
	}
	if most != "" {
		answer.most = timesModel(most)
	}
	return answer
}

// timesModel is a number of any length, at most 1001.
func timesModel(digits string) int {
	n, _ := new(big.Int).SetString(digits, 10)
	if n.Cmp(big.NewInt(1000)) > 0 {
		return 1001
	}
	return int(n.Int64())
}

// nameModel is C3, from each > that there is.
func nameModel(s string, at int) named {
	next := strings.Index(s[at:], ">")
	if next < 0 {
		return named{wrong: api.Wrong{E: api.ErrGroupName, From: at, To: len(s)}}
	}
	end := at + next + 1
	for _, begin := range []string{"(?P<", "(?<"} {
		name, is := strings.CutPrefix(s[at:end-1], begin)
		if is && len(name) <= 32 && onlyOf(name, letters+decDigits) && onlyOf(name[:1], letters) {
			return named{name: name, end: end}
		}
	}
	return named{wrong: api.Wrong{E: api.ErrGroupName, From: at, To: end}}
}

// flagsModel is C4: the shortest piece at the place that is whole; else up to the first that could not be made whole.
func flagsModel(s string, at int, f api.Flag) flagged {
	end := at
	for rest := s[at:]; ; {
		piece := s[at:end]
		if flags, is := wholeFlags(piece, f); is {
			return flagged{flags, strings.HasSuffix(piece, ":"), end, api.Wrong{}}
		}
		if rest == "" || !mayBeFlags(piece) {
			return flagged{wrong: api.Wrong{E: api.ErrGroupFlag, From: at, To: end}}
		}
		var first string
		first, rest = cutRune(rest)
		end += len(first)
	}
}

// mayBeFlags: is there something that makes it whole?
func mayBeFlags(piece string) bool {
	for _, more := range []string{"(?)", "?)", ")", "i)"} {
		if _, is := wholeFlags(piece+more, 0); is {
			return true
		}
	}
	return false
}

// wholeFlags: are these flags and all around them? and what they are.
func wholeFlags(piece string, f api.Flag) (api.Flag, bool) {
	body, opens := strings.CutPrefix(piece, "(?")
	if !opens || body == "" || !onlyOf(body[len(body)-1:], ":)") {
		return 0, false
	}
	on, off, minus := strings.Cut(body[:len(body)-1], "-")
	if on != "" && !onlyOf(on, "imsU") || minus && !onlyOf(off, "imsU") {
		return 0, false
	}
	for i, letter := range "imsU" {
		flag := []api.Flag{1, 4, 8, 16}[i]
		if strings.ContainsRune(on, letter) {
			f |= flag
		}
		if strings.ContainsRune(off, letter) {
			f &^= flag
		}
	}
	return f, true
}

// aheads are what may stand ahead of a part: nothing of it is looked at.
func aheads() []string {
	return []string{"", "a", "é", "世界", "\xff", "\xe2\x82", "\\", "{", "}", "<", ">", "(?", "(?P<", "-", "1", "\n"}
}

// movedBy is where what is told stands, if so many bytes stand ahead: the place behind, or, with an error, the bytes that it is about.
func movedBy(ahead int, end int, wrong api.Wrong) (int, api.Wrong) {
	if wrong.E == api.OK {
		return end + ahead, wrong
	}
	return end, api.Wrong{E: wrong.E, From: wrong.From + ahead, To: wrong.To + ahead}
}

// zeroBeside holds an answer's other results against there being an error.
func zeroBeside(t *testing.T, call string, zero bool, wrong api.Wrong) {
	t.Helper()
	if wrong.E == api.OK && wrong != (api.Wrong{}) || wrong.E != api.OK && !zero {
		t.Errorf("%s: with %+v something stands, or without an error", call, wrong)
	}
}
