package syntax_test

import (
	"math"
	"slices"
	"strings"
	"testing"

	"martello/api"
	"martello/tables"
)

// probe is a part that shows which flags hold where it stands: FlagFold, FlagMulti, FlagDot, FlagSwap.
const probe = "k^.1*"

// probed is what the probe's atoms are under flags.
func probed(f api.Flag) []string {
	all := []string{"k", "at1", "[0-9 b-10ffff]", "star(1)"}
	for i, with := range []string{"[4b-4b 6b-6b 212a-212a]", "at4", "[0-10ffff]", "star?(1)"} {
		if f&[]api.Flag{api.FlagFold, api.FlagMulti, api.FlagDot, api.FlagSwap}[i] != 0 {
			all[i] = with
		}
	}
	return all
}

// quoted are the atoms of letters of flags, as a text.
func quoted(letters string, f api.Flag) []string {
	var all []string
	for _, c := range letters {
		if orbit := tables.Orbit(c); f&api.FlagFold != 0 && len(orbit) > 1 {
			all = append(all, alike(orbit...))
		} else {
			all = append(all, showRune(c))
		}
	}
	return all
}

// changes are letters of flags, and what they make of flags.
func changes() map[string]func(api.Flag) api.Flag {
	return map[string]func(api.Flag) api.Flag{
		"": func(f api.Flag) api.Flag { return f }, "i": func(f api.Flag) api.Flag { return f | 1 }, "m": func(f api.Flag) api.Flag { return f | 4 }, "s": func(f api.Flag) api.Flag { return f | 8 }, "U": func(f api.Flag) api.Flag { return f | 16 }, "-i": func(f api.Flag) api.Flag { return f &^ 1 }, "-m": func(f api.Flag) api.Flag { return f &^ 4 }, "-s": func(f api.Flag) api.Flag { return f &^ 8 }, "-U": func(f api.Flag) api.Flag { return f &^ 16 },
		"imsU": func(f api.Flag) api.Flag { return f | 29 }, "-imsU": func(f api.Flag) api.Flag { return f &^ 29 }, "is-mU": func(f api.Flag) api.Flag { return f&^20 | 9 }, "m-i": func(f api.Flag) api.Flag { return f&^1 | 4 }, "i-i": func(f api.Flag) api.Flag { return f &^ 1 },
	}
}

// TestFlags: Y1: flags with and without :, on each sum of flags: where they hold, behind a | too, and where they end. The probe stands wherever they may hold.
func TestFlags(t *testing.T) {
	for letters, change := range changes() {
		for _, f := range anyPerl() {
			g := change(f)
			on, off := join("cat", probed(g)...), join("cat", probed(f)...)
			flat := func(all ...[]string) string { return join("cat", slices.Concat(all...)...) }
			set, open := "(?"+letters+")", "(?"+letters+":"
			for s, want := range map[string]string{
				set + probe:                                            on,
				probe + set + probe:                                    flat(probed(f), probed(g)),
				set + probe + "|" + probe:                              "alt(" + on + " " + on + ")",
				probe + "|" + set + probe + "|" + probe:                "alt(" + off + " " + on + " " + on + ")",
				probe + "|" + probe + set + probe + "|" + probe:        "alt(" + off + " " + flat(probed(f), probed(g)) + " " + on + ")",
				set + "|" + probe:                                      "alt(empty " + on + ")",
				set + "(" + probe + ")" + probe:                        flat([]string{"cap1(" + on + ")"}, probed(g)),
				"(" + set + probe + ")" + probe:                        flat([]string{"cap1(" + on + ")"}, probed(f)),
				"(" + probe + set + ")" + probe + "|" + probe:          "alt(" + flat([]string{"cap1(" + off + ")"}, probed(f)) + " " + off + ")",
				"(" + set + probe + "|" + probe + ")" + probe:          flat([]string{"cap1(alt(" + on + " " + on + "))"}, probed(f)),
				"(?P<x>" + set + probe + ")" + probe:                   flat([]string{"cap1:x(" + on + ")"}, probed(f)),
				"(?:" + set + probe + ")" + probe:                      flat([]string{on}, probed(f)),
				"(?:(" + set + ")" + probe + ")" + probe:               flat([]string{flat([]string{"cap1(empty)"}, probed(f))}, probed(f)),
				"((" + probe + set + probe + ")" + probe + ")" + probe: flat([]string{"cap1(" + flat([]string{"cap2(" + flat(probed(f), probed(g)) + ")"}, probed(f)) + ")"}, probed(f)),
				open + probe + ")" + probe:                             flat([]string{on}, probed(f)),
				probe + open + probe + "|" + probe + ")" + probe:       flat(probed(f), []string{"alt(" + on + " " + on + ")"}, probed(f)),
				open + "(" + probe + ")" + probe + ")" + probe:         flat([]string{flat([]string{"cap1(" + on + ")"}, probed(g))}, probed(f)),
				open + ")" + probe + "|" + probe:                       "alt(" + flat([]string{"empty"}, probed(f)) + " " + off + ")",
				open + probe + ")|" + probe:                            "alt(" + on + " " + off + ")",
				"(" + open + probe + ")" + probe + ")" + probe:         flat([]string{"cap1(" + flat([]string{on}, probed(f)) + ")"}, probed(f)),
				set + set + probe:                                      on,
				`[(?]` + probe + `\Q` + letters + `\E`:                 flat([]string{"[28-28 3f-3f]"}, probed(f), quoted(letters, f)),
			} {
				holds(t, s, f, tells(want))
			}
		}
	}
}

// TestFlagsBehindFlags: Y1: each change of flags behind each other one, alone and within one another.
func TestFlagsBehindFlags(t *testing.T) {
	for a, first := range changes() {
		for b, second := range changes() {
			for _, f := range []api.Flag{32, 61, 41, 52} {
				g := first(f)
				holds(t, "(?"+a+")(?"+b+")"+probe, f, tells(join("cat", probed(second(g))...)))
				holds(t, "(?"+a+":(?"+b+")"+probe+")", f, tells(join("cat", probed(second(g))...)))
				holds(t, "(?"+a+")(?"+b+":"+probe+")"+probe, f, tells(join("cat", slices.Concat([]string{join("cat", probed(second(g))...)}, probed(g))...)))
				holds(t, "(?"+a+")((?"+b+")"+probe+")"+probe, f, tells(join("cat", slices.Concat([]string{"cap1(" + join("cat", probed(second(g))...) + ")"}, probed(g))...)))
			}
		}
	}
}

// TestNoFlags: Y1: flags that are none, with layer 6's bytes; wherever they stand.
func TestNoFlags(t *testing.T) {
	each(t, anyPerl(), map[string]answer{
		"(?": refuses(api.ErrGroupFlag, 0, 2), "(?i": refuses(api.ErrGroupFlag, 0, 3), "(?x)": refuses(api.ErrGroupFlag, 0, 3), "(?-)": refuses(api.ErrGroupFlag, 0, 4), "(?-:a)": refuses(api.ErrGroupFlag, 0, 4), "(?i-)": refuses(api.ErrGroupFlag, 0, 5), "(?P": refuses(api.ErrGroupFlag, 0, 3), "(?P=x)": refuses(api.ErrGroupFlag, 0, 3), "(?Px>": refuses(api.ErrGroupFlag, 0, 3), "(?=a)": refuses(api.ErrGroupFlag, 0, 3), "(?!a)": refuses(api.ErrGroupFlag, 0, 3), "(?>a)": refuses(api.ErrGroupFlag, 0, 3), "(?#a)": refuses(api.ErrGroupFlag, 0, 3), "(?é)": refuses(api.ErrGroupFlag, 0, 4), "(?i(": refuses(api.ErrGroupFlag, 0, 4), "(??)": refuses(api.ErrGroupFlag, 0, 3), "(?L)": refuses(api.ErrGroupFlag, 0, 3), "(?I)": refuses(api.ErrGroupFlag, 0, 3), "a(b(?i-s-m)": refuses(api.ErrGroupFlag, 3, 9), "世|(?q": refuses(api.ErrGroupFlag, 4, 7), "(?i)(?s)(?i;)": refuses(api.ErrGroupFlag, 8, 12),
	})
}

// TestFlagsRange: Y1: flags below 0 and above 63 are wrong, whatever the pattern is; all from 0 to 63 may be.
func TestFlagsRange(t *testing.T) {
	for _, s := range []string{"", "a", "(", "*", "a**", "\xff", "(?i)", strings.Repeat("a", 1024), strings.Repeat("a", 1025), strings.Repeat("\xff", 1025), strings.Repeat("(", 70000)} {
		for _, f := range []api.Flag{-1, -2, -32, -63, -64, 64, 65, 95, 96, 127, 128, 1 << 20, math.MinInt, math.MinInt + 1, math.MinInt32, math.MaxInt32, math.MaxInt - 1, math.MaxInt} {
			holds(t, s, f, whole(api.ErrArg, s))
		}
	}
	for f := range api.FlagAll + 1 {
		holds(t, "1", f, tells("1"))
		holds(t, "", f, tells("empty"))
	}
}
