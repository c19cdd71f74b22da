package scan_test

import (
	"math"
	"testing"

	"martello/api"
	"martello/classes"
	"martello/scan"
)

// The calls of the chapter, by their signatures.
var (
	_ func(string, int, bool) (api.Esc, int, api.Wrong)            = scan.Escape
	_ func(string, int) (int, int, int, bool)                      = scan.Count
	_ func(string, int) (string, int, api.Wrong)                   = scan.Name
	_ func(string, int, api.Flag) (api.Flag, bool, int, api.Wrong) = scan.Flags
)

// TestExamples: the chapter's table; but that the place behind the six bytes of its last text is 6, as C4 says, where the table has 7.
func TestExamples(t *testing.T) {
	l, _ := classes.Property("L", false)
	lu, _ := classes.Property("Lu", false)
	for _, x := range []struct {
		text string
		at   int
		perl bool
		want escaped
	}{
		{`\x{41}b`, 0, false, isRune('A', 6)},
		{`a\d`, 1, true, isSet(ranges(0x30, 0x39), 3)}, {`a\d`, 1, false, wrongly(api.ErrEscape, 1, 3)},
		{`\pLu`, 0, true, isSet(l, 3)}, {`\p{Lu}`, 0, true, isSet(lu, 6)}, {`\p{x}`, 0, true, wrongly(api.ErrProperty, 0, 5)},
	} {
		if got := askEscape(x.text, x.at, x.perl); !got.same(x.want) {
			t.Errorf("Escape(%q, %d, %v): %x; not %x", x.text, x.at, x.perl, got, x.want)
		}
	}
	if got := askCount("a{2,}", 1); got != (counted{2, -1, 5, true}) {
		t.Errorf("Count(`a{2,}`, 1): %v", got)
	}
	if got := askCount("{,2}", 0); got != (counted{}) {
		t.Errorf("Count(`{,2}`, 0): %v", got)
	}
	if got := askFlags("(?i-s:", 0, api.FlagDot); got != (flagged{api.FlagFold, true, 6, api.Wrong{}}) {
		t.Errorf("Flags(`(?i-s:`, 0, FlagDot): %v", got)
	}
}

// TestNoPlace: rule P1: of a place below 0 or above the text's length nothing is said but that each call ends, and does not panic; rule P2: with an error all else is zero.
func TestNoPlace(t *testing.T) {
	for _, s := range []string{"", `\d`, `\`, "{1}", "(?P<a>", "(?i)", ">", "é\xff"} {
		for _, at := range []int{math.MinInt, math.MinInt + 1, math.MinInt32, -100, -2, -1, len(s) + 1, len(s) + 2, 100, math.MaxInt32, math.MaxInt - 1, math.MaxInt} {
			for _, perl := range flavours {
				got := askEscape(s, at, perl)
				zeroBeside(t, "Escape", got.same(escaped{wrong: got.wrong}), got.wrong)
			}
			if got := askCount(s, at); !got.is && got != (counted{}) {
				t.Errorf("Count(%q, %d): %v", s, at, got)
			}
			gotName := askName(s, at)
			zeroBeside(t, "Name", gotName == named{wrong: gotName.wrong}, gotName.wrong)
			gotFlags := askFlags(s, at, 63)
			zeroBeside(t, "Flags", gotFlags == flagged{wrong: gotFlags.wrong}, gotFlags.wrong)
		}
	}
}

// TestToldAgain: rule P3: the same call tells the same, whatever was asked between.
func TestToldAgain(t *testing.T) {
	all := []string{`\d`, `\x{41}`, `\p{Lu}`, `\p{x}`, `\`, "{1,2}", "{1001}", "{", "(?P<a>b)", "(?<1>", "(?i-s:", "(?-)", ""}
	first := map[string]escaped{}
	for range 3 {
		for _, s := range all {
			got := askEscape(s, 0, true)
			if was, is := first[s]; is && !got.same(was) {
				t.Errorf("Escape(%q, 0, true): %x; was %x", s, got, was)
			}
			first[s] = got
			if askCount(s, 0) != countModel(s, 0) || askName(s, 0) != nameModel(s, 0) || askFlags(s, 0, 9) != flagsModel(s, 0, 9) {
				t.Errorf("%q: told otherwise", s)
			}
		}
	}
}
