package scan_test

import (
	"math"
	"strings"
	"testing"
	"unicode/utf8"

	"martello/api"
	"martello/samples"
)

// names holds Name of a text, behind each of what may stand ahead, against what it is at its beginning.
func names(t *testing.T, text string, want named) {
	t.Helper()
	for _, ahead := range aheads() {
		at, moved := len(ahead), want
		moved.end, moved.wrong = movedBy(at, want.end, want.wrong)
		if got := askName(ahead+text, at); got != moved {
			t.Errorf("Name(%.80q, %d): %v; not %v", ahead+text, at, got, moved)
		}
	}
}

// noName is what is told of a text without a name, up to a byte.
func noName(to int) named {
	return named{wrong: api.Wrong{E: api.ErrGroupName, To: to}}
}

// forms are how a named group begins.
func forms() []string { return []string{"(?P<", "(?<"} }

// TestName: C3: names of each length in both forms; a name of 33 bytes is none; what stands behind is not looked at.
func TestName(t *testing.T) {
	for _, begin := range forms() {
		for n := range 70 {
			for _, name := range []string{strings.Repeat("a", n), strings.Repeat("_", n), strings.Repeat("Z9", n)[:n]} {
				end := len(begin) + n + 1
				want := noName(end)
				if n >= 1 && n <= 32 {
					want = named{name: name, end: end}
				}
				for _, behind := range []string{"", ">", "a)", "(?P<b>)", "é", "\xff"} {
					names(t, begin+name+">"+behind, want)
				}
			}
		}
		for _, name := range []string{"x", "X", "_", "__", "a1", "a_1", "_9", "P", "Px", "name", "NaMe", "z0123456789", "abcdefghijklmnopqrstuvwxyz_", "ABCDEFGHIJKLMNOPQRSTUVWXYZ_"} {
			names(t, begin+name+">", named{name: name, end: len(begin) + len(name) + 1})
			names(t, begin+name, noName(len(begin)+len(name)))
		}
	}
}

// TestNameBytes: C3: every byte as a name's first, its last, and alone.
func TestNameBytes(t *testing.T) {
	for _, begin := range forms() {
		for b := range 256 {
			if b == '>' {
				continue // it ends a name, wherever it stands
			}
			s := string([]byte{byte(b)})
			first := strings.Contains(letters, s)
			later := first || strings.Contains(decDigits, s)
			for name, is := range map[string]bool{s: first, s + "a": first, "a" + s: later, "a" + s + "b": later} {
				text := begin + name + ">"
				want := named{name: name, end: len(text)}
				if !is {
					want = noName(len(text))
				}
				if got := askName(text, 0); got != want {
					t.Errorf("Name(%q, 0): %v; not %v", text, got, want)
				}
			}
		}
	}
}

// TestNoName: C3: what is none, and where it ends: behind the next >, wherever that stands, or with the text.
func TestNoName(t *testing.T) {
	for text, to := range map[string]int{
		"": 0, "a": 1, ">": 1, ">>": 1, "a>": 2, "a>b>": 2, "é>": 3, "\xff>": 2, "é": 2,
		"(": 1, "(?": 2, "(?P": 3, "(?P<": 4, "(?<": 3, "(?P<x": 5, "(?<x": 4, "(?P<xé": 7, "(?P<x\xff": 6,
		"(?P<>": 5, "(?<>": 4, "(?P<>x>": 5, "(?P<1>": 6, "(?<1a>": 6, "(?P<9_>": 7, "(?P<a-b>": 8, "(?P<a b>c>": 8, "(?P< a>": 7, "(?P<a >": 7, "(?P<é>": 7, "(?P<aé>": 8, "(?P<\xff>": 6, "(?P<a\n>": 7, "(?P<a.b>": 8, "(?P<ａ>": 8, "(?P<٣a>": 8,
		"(?P<<a>": 7, "(?P<a<b>": 8, "(?P<(?P<a>": 10, "(?P<a(?<b>)>": 10, "(?<P<a>": 7, "(?<=a>": 6, "(?<!a>": 6, "(?<?a>": 6,
		"(?p<a>": 6, "(?PP<a>": 7, "(?Pa>": 5, "(?P>": 4, "(?P a>": 6, "(?P'a'>": 7, "(?a>": 4, "(? <a>": 6, "(P<a>": 5, "(<a>": 4, "(??<a>": 6, "((?<a>": 6, "?<a>": 4, "<a>": 3, "P<a>": 4, "(?P=a)": 6, "(?i:a>": 6, "[?<a>": 5, "\\(?<a>": 6, "(\x00?<a>": 6, "(?>": 3, "(>": 2,
		"(?P<a": 5, "(?P<a)b>": 8, "(?P<" + strings.Repeat("a", 40): 44, "(?P<" + strings.Repeat("a", 100000) + ">": 100005, strings.Repeat("(?P<", 1000): 4000,
	} {
		names(t, text, noName(to))
	}
}

// TestNameShort: C3: every short text, at each of its places, against the model.
func TestNameShort(t *testing.T) {
	pieces := []string{"(", "?", "P", "<", ">", "a", "1", "_", "-", "é", "\xff"}
	all := samples.Texts(5, pieces...)
	for _, ahead := range []string{"(?P<", "(?<", "é(?P<", "(?P<a"} {
		for _, s := range samples.Texts(4, pieces...) {
			all = append(all, ahead+s)
		}
	}
	for _, s := range all {
		for at := range len(s) + 1 {
			got, want := askName(s, at), nameModel(s, at)
			if got != want {
				t.Fatalf("Name(%q, %d): %v; not %v", s, at, got, want)
			}
			zeroBeside(t, s, got.name == "" && got.end == 0, got.wrong)
		}
	}
}

// flags holds Flags of a text, behind each of what may stand ahead, against what it is at its beginning.
func flags(t *testing.T, text string, f api.Flag, want flagged) {
	t.Helper()
	for _, ahead := range aheads() {
		at, moved := len(ahead), want
		moved.end, moved.wrong = movedBy(at, want.end, want.wrong)
		if got := askFlags(ahead+text, at, f); got != moved {
			t.Errorf("Flags(%.80q, %d, %d): %v; not %v", ahead+text, at, f, got, moved)
		}
	}
}

// noFlags is what is told of a text without flags, up to a byte.
func noFlags(to int) flagged {
	return flagged{wrong: api.Wrong{E: api.ErrGroupFlag, To: to}}
}

// someFlags are all sums of the six, and numbers that are none of them.
func someFlags() []api.Flag {
	all := []api.Flag{-1, -2, 64, 127, 1 << 20, math.MaxInt, math.MinInt, math.MinInt + 1}
	for f := range api.FlagAll + 1 {
		all = append(all, f)
	}
	return all
}

// TestFlags: C4: each letter ahead of the - and behind it, on each flag that may be there already, with : and with ).
func TestFlags(t *testing.T) {
	for letter, flag := range map[string]api.Flag{"i": api.FlagFold, "m": api.FlagMulti, "s": api.FlagDot, "U": api.FlagSwap} {
		for _, f := range someFlags() {
			for text, want := range map[string]api.Flag{
				"(?" + letter: f | flag, "(?-" + letter: f &^ flag, "(?" + letter + "-" + letter: f &^ flag, "(?" + letter + letter: f | flag, "(?-" + letter + letter: f &^ flag, "(?": f,
				"(?imsU-" + letter: (f | 29) &^ flag, "(?" + letter + "-imsU": f &^ 29, "(?Usmi": f | 29, "(?imsUimsU": f | 29, "(?-sUim": f &^ 29, "(?ims-U": (f | 13) &^ 16, "(?U-ims": (f | 16) &^ 13,
			} {
				end := len(text) + 1
				if got := askFlags(text+":", 0, f); got != (flagged{want, true, end, api.Wrong{}}) {
					t.Errorf("Flags(%q, 0, %d): %v; not %d, true, %d", text+":", f, got, want, end)
				}
				if got := askFlags(text+")", 0, f); got != (flagged{want, false, end, api.Wrong{}}) {
					t.Errorf("Flags(%q, 0, %d): %v; not %d, false, %d", text+")", f, got, want, end)
				}
			}
		}
	}
}

// TestFlagsWritten: C4: some by numbers; what stands behind is not looked at.
func TestFlagsWritten(t *testing.T) {
	for _, behind := range []string{"", "a", ":", ")", "i", "-i:", "é", "\xff"} {
		flags(t, "(?)"+behind, 0, flagged{0, false, 3, api.Wrong{}})
		flags(t, "(?:"+behind, 0, flagged{0, true, 3, api.Wrong{}})
		flags(t, "(?)"+behind, 63, flagged{63, false, 3, api.Wrong{}})
		flags(t, "(?i)"+behind, api.FlagPerl, flagged{33, false, 4, api.Wrong{}})
		flags(t, "(?m:"+behind, api.FlagLit, flagged{6, true, 4, api.Wrong{}})
		flags(t, "(?-i)"+behind, 63, flagged{62, false, 5, api.Wrong{}})
		flags(t, "(?i-i:"+behind, 1, flagged{0, true, 6, api.Wrong{}})
		flags(t, "(?sU-mi)"+behind, 37, flagged{56, false, 8, api.Wrong{}})
		flags(t, "(?"+strings.Repeat("ims", 1000)+"-"+strings.Repeat("U", 1000)+":"+behind, 16, flagged{13, true, 4004, api.Wrong{}})
	}
}

// TestNoFlags: C4: what is none, and where it ends: behind the first rune that may not stand there, or with the text; on whatever flags.
func TestNoFlags(t *testing.T) {
	for text, to := range map[string]int{
		"": 0, "(": 1, "(?": 2, "(?i": 3, "(?imsU": 6, "(?-": 3, "(?i-": 4, "(?-i": 4, "(?i-s": 5,
		"(?-)": 4, "(?-:": 4, "(?i-)": 5, "(?i-:a": 5, "(?--i)": 4, "(?-i-s)": 5, "(?i-s-m)": 6, "(?i--": 5, "(?i-s-": 6,
		"(?x)": 3, "(?ix)": 4, "(?I)": 3, "(?M)": 3, "(?S)": 3, "(?u)": 3, "(?-u)": 4, "(?-ix)": 5, "(?P<a>": 3, "(?<a>": 3, "(?P=a)": 3, "(?=a)": 3, "(?!a)": 3, "(?#a)": 3, "(?+i)": 3, "(?^i)": 3, "(? )": 3, "(?i )": 4, "(?i,m)": 4, "(?1)": 3, "(?\x00)": 3, "(?\n)": 3, "(?i]": 4, "(?i}": 4, "(?i;": 4, "(??)": 3, "(?(": 3, "(?i(": 4, "(?i?": 4,
		"(?é)": 4, "(?ié": 5, "(?-é)": 5, "(?-ié": 6, "(?世": 5, "(?i-😀": 8, "(?ı)": 4, "(?\xff)": 3, "(?i\xff": 4, "(?-\xff": 4, "(?i-m\xff\xff": 6, "(?\xe4\xb8": 3, "(?i\xe4\xb8)": 4,
		"a": 1, "i)": 1, "?i)": 1, ")": 1, ":": 1, "-": 1, "é": 2, "é(?i)": 2, "\xff(?i)": 1, "\xe4\xb8": 1, "((?i)": 2, "(i)": 2, "(:": 2, "(-": 2, "()": 2, "(é?": 3, "(\xff?": 2, "\\(?i)": 1, "[?i)": 1, "( ?i)": 2, "（?i)": 3,
		"(?" + strings.Repeat("ims", 1000): 3002, "(?" + strings.Repeat("ims", 1000) + "-)": 3004,
	} {
		for _, f := range []api.Flag{0, 1, 32, 63, -1} {
			flags(t, text, f, noFlags(to))
		}
	}
}

// TestFlagsRunes: C4: every rune as the first of the flags, behind a letter, and behind the -.
func TestFlagsRunes(t *testing.T) {
	for c := rune(0); c < 0x3000; c++ {
		for _, begin := range []string{"(?", "(?i", "(?-", "(?-s"} {
			text := begin + string(c)
			want := noFlags(len(text))
			if f, is := wholeFlags(text, 8); is {
				want = flagged{f, c == ':', len(text), api.Wrong{}}
			}
			if got := askFlags(text, 0, 8); got != want {
				t.Errorf("Flags(%q, 0, 8): %v; not %v", text, got, want)
			}
			if got, want := askFlags(text+"é)", 0, 8), flagsModel(text+"é)", 0, 8); got != want {
				t.Errorf("Flags(%q, 0, 8): %v; not %v", text+"é)", got, want)
			}
		}
	}
}

// TestFlagsShort: C4: every short text, at each of its places, on some flags, against the model.
func TestFlagsShort(t *testing.T) {
	pieces := []string{"(", "?", "i", "m", "s", "U", "-", ":", ")", "x", "é", "\xff"}
	all := samples.Texts(4, pieces...)
	for _, ahead := range []string{"(?", "(?i-", "é(?"} {
		for _, s := range samples.Texts(4, pieces...) {
			all = append(all, ahead+s)
		}
	}
	for i, s := range all {
		f := api.Flag(i % 64)
		for at := range len(s) + 1 {
			got, want := askFlags(s, at, f), flagsModel(s, at, f)
			if got != want {
				t.Fatalf("Flags(%q, %d, %d): %v; not %v", s, at, f, got, want)
			}
			zeroBeside(t, s, got.flags == 0 && !got.begins && got.end == 0, got.wrong)
			if got.wrong.E == api.OK && (got.end < at+3 || got.end > len(s)) || got.wrong.E != api.OK && utf8.ValidString(s) && !utf8.ValidString(s[:got.wrong.To]) {
				t.Fatalf("Flags(%q, %d, %d): %v", s, at, f, got)
			}
		}
	}
}
