package brackets_test

import (
	"math"
	"slices"
	"testing"

	"martello/api"
	"martello/brackets"
	"martello/samples"
	"martello/sets"
	"martello/tables"
)

// The call of the chapter, by its signature.
var _ func(string, int, api.Flag) ([]api.Range, int, api.Wrong) = brackets.Class

// TestExamples: the chapter's table.
func TestExamples(t *testing.T) {
	for _, x := range []struct {
		text string
		f    api.Flag
		want answer
	}{
		{"[a-cx]", 0, has(6, 0x61, 0x63, 0x78, 0x78)},
		{"[]a]", 0, has(4, ']', ']', 'a', 'a')}, {"[^]a]", 0, has(5, 0, '\\', '^', '`', 'b', 0x10ffff)}, {"[a-]", 0, has(4, '-', '-', 'a', 'a')}, {"[--/]", 0, has(5, 0x2d, 0x2f)},
		{`[[:digit:]\w]`, api.FlagPerl, has(13, 0x30, 0x39, 0x41, 0x5a, 0x5f, 0x5f, 0x61, 0x7a)},
		{"[b-a]", 0, wrongly(api.ErrClassRange, 1, 4)}, {"[[:x:]]", 0, wrongly(api.ErrClassRange, 1, 6)}, {"[a", 0, wrongly(api.ErrBracket, 0, 2)},
	} {
		is(t, x.text, 0, x.f, x.want)
	}
}

// parts are items of each kind, with what they are; by no - does one begin, or end, that is no range.
func parts() map[string][]api.Range {
	return map[string][]api.Range{
		"k": ranges('k', 'k'), "é": ranges('é', 'é'), "\xff": ranges(0xfffd, 0xfffd), "[": ranges('[', '['), ":": ranges(':', ':'), `\]`: ranges(']', ']'), `\-`: ranges('-', '-'), `\x41`: ranges('A', 'A'), `\x{212A}`: ranges(0x212a, 0x212a), `\n`: ranges(10, 10),
		"a-c": ranges('a', 'c'), "+--": ranges('+', '-'), `\t-\r`: ranges(9, 13), `A-\x{43}`: ranges('A', 'C'), `\x{130}-世`: ranges(0x130, 0x4e16),
		"[:digit:]": ranges('0', '9'), "[:^word:]": ranges(0, '/', ':', '@', '[', '^', '`', '`', '{', 0x10ffff), `\p{Nd}`: ranges('0', '9', 0x660, 0x669), `\PL`: complement(property("L")), `\P{Any}`: nil,
		`\d`: ranges('0', '9'), `\W`: ranges(0, '/', ':', '@', '[', '^', '`', '`', '{', 0x10ffff), `\s`: ranges(9, 10, 12, 13, ' ', ' '),
	}
}

// TestPairs: K1: each kind of item alone, beside each other one, and between two: the class has what one of them has. A ] ahead, and a - behind, are runes.
func TestPairs(t *testing.T) {
	all := parts()
	for a, setA := range all {
		holds(t, "["+a+"]", perlAlone, answer{set: sets.Norm(setA), end: len(a) + 2})
		for b, setB := range all {
			if a == "[" && b == ":" {
				continue // a name between colons begins so
			}
			both := sets.Union(setA, setB)
			holds(t, "["+a+b+"]", perlAlone, answer{set: both, end: len(a+b) + 2})
			if t.Failed() {
				return
			}
			is(t, "[]"+a+b+"-]", 0, api.FlagPerl, answer{set: sets.Union(both, ranges('-', '-', ']', ']')), end: len(a+b) + 4})
			for c, setC := range all {
				if b != "[" || c != ":" {
					is(t, "["+a+b+c+"]", 0, api.FlagPerl, answer{set: sets.Union(both, setC), end: len(a+b+c) + 2})
				}
			}
		}
	}
}

// TestNoClass: K1: a place at which no [ stands, the one behind the text among them; the [ is looked for at the place alone.
func TestNoClass(t *testing.T) {
	for _, s := range []string{"", "a", "]", "a[b]", "^[b]", `\[b]`, "é[b]", "\xff[b]", "[a]", "[]]", "[[]", "[", "［a］", "(a)", "\x00", "[:alpha:]", "[é]", `[\]]`} {
		for at := range len(s) + 1 {
			if at < len(s) && s[at] == '[' {
				continue
			}
			for f := range api.FlagAll + 1 {
				is(t, s, at, f, wrongly(api.ErrArg, at, at))
			}
		}
	}
	is(t, "[a]b", 1, 0, wrongly(api.ErrArg, 1, 1))
	is(t, "[a][b]", 3, 0, has(6, 'b', 'b'))
	is(t, "[a[b]", 2, 0, has(5, 'b', 'b'))
	is(t, `\[b]`, 1, 0, has(4, 'b', 'b'))
	is(t, "[^[b]", 2, 0, has(5, 'b', 'b'))
	is(t, "[[:digit:]]", 1, 0, has(10, ':', ':', 'd', 'd', 'g', 'g', 'i', 'i', 't', 't'))
}

// TestNoPlace: rules P1 and P2: of a place below 0 or above the text's length nothing is said but that the call ends, and does not panic; no [ stands there.
func TestNoPlace(t *testing.T) {
	for _, s := range []string{"", "[a]", "[", "]", "[[:digit:]]", `[\`, "é\xff"} {
		for _, at := range []int{math.MinInt, math.MinInt + 1, math.MinInt32, -100, -2, -1, len(s) + 1, len(s) + 2, 100, math.MaxInt32, math.MaxInt - 1, math.MaxInt} {
			for _, f := range []api.Flag{0, 1, 32, 63} {
				is(t, s, at, f, wrongly(api.ErrArg, at, at))
			}
		}
	}
}

// TestFlags: P1: no flags are wrong here: those that there are not change nothing.
func TestFlags(t *testing.T) {
	for _, f := range []api.Flag{64, 128, 1 << 20, math.MaxInt32 &^ 63, math.MinInt} {
		for text, want := range map[string]answer{"[a-c]": has(5, 'a', 'c'), `[\x41]`: has(6, 'A', 'A'), `[\d]`: wrongly(api.ErrEscape, 1, 3), "[": wrongly(api.ErrBracket, 0, 1)} {
			is(t, text, 0, f, want)
		}
		is(t, `[\d]`, 0, f|api.FlagPerl, has(4, '0', '9'))
		is(t, `[k]`, 0, f|api.FlagFold, has(3, 'K', 'K', 'k', 'k', 0x212a, 0x212a))
	}
	is(t, `[\dk]`, 0, -1, has(5, '0', '9', 'K', 'K', 'k', 'k', 0x212a, 0x212a))
}

// TestFold: K1: with FlagFold the orbits of all runes, ahead of the turning; names and escapes, too.
func TestFold(t *testing.T) {
	for text, want := range map[string]answer{
		"[k]": has(3, 'K', 'K', 'k', 'k', 0x212a, 0x212a), "[1]": has(3, '1', '1'), "[A-C]": has(5, 'A', 'C', 'a', 'c'), "[[:lower:]]": has(11, 'A', 'Z', 'a', 'z', 0x17f, 0x17f, 0x212a, 0x212a), "[[:upper:]]": has(11, 'A', 'Z', 'a', 'z', 0x17f, 0x17f, 0x212a, 0x212a), "[[:^lower:]]": has(12, 0, 0x10ffff), "[^[:lower:]]": has(12, 0, '@', '[', '`', '{', 0x17e, 0x180, 0x2129, 0x212b, 0x10ffff), "[^[:^lower:]]": has(13), `[\x6b]`: has(6, 'K', 'K', 'k', 'k', 0x212a, 0x212a), `[\x{212a}]`: has(10, 'K', 'K', 'k', 'k', 0x212a, 0x212a), "[\u00df]": has(4, 0xdf, 0xdf, 0x1e9e, 0x1e9e), "[^s]": has(4, 0, 'R', 'T', 'r', 't', 0x17e, 0x180, 0x10ffff), "[Z-a]": has(5, 'A', 'A', 'Z', 'a', 'z', 'z'), "[b-a]": wrongly(api.ErrClassRange, 1, 4), "[a-B]": wrongly(api.ErrClassRange, 1, 4), "[\xff]": has(3, 0xfffd, 0xfffd),
	} {
		for _, f := range flavours() {
			around(t, text, f|api.FlagFold, want)
		}
	}
	is(t, `[\w]`, 0, 33, has(4, '0', '9', 'A', 'Z', '_', '_', 'a', 'z', 0x17f, 0x17f, 0x212a, 0x212a))
	is(t, `[\W]`, 0, 33, answer{set: tables.Fold(complement(ranges('0', '9', 'A', 'Z', '_', '_', 'a', 'z'))), end: 4})
	is(t, `[^\W]`, 0, 33, has(5, '0', '9', 'A', 'J', 'L', 'R', 'T', 'Z', '_', '_', 'a', 'j', 'l', 'r', 't', 'z'))
}

// right are classes, without a ^ ahead.
func right() []string {
	all := []string{"[]]", "[]-a]", "[-]", "[--/]", "[a-]", "[[:a]", `[\x{0}-\x{10ffff}]`, "[\x00-\x7f\u0100-\U0010ffff]", `[\P{Any}]`, "[K\u017f\u00c5]", "[\u03c2\u00b5\u1e9e\u0178]", `[\^-^]`, "[a-kM-Z]"}
	for part := range parts() {
		all = append(all, "["+part+"]", "[1"+part+"x-z]")
	}
	slices.Sort(all)
	return all
}

// TestComplement: P7.2: with ^ a class has just the runes that it does not have without, with FlagFold too; rune by rune.
func TestComplement(t *testing.T) {
	for _, text := range right() {
		for _, f := range []api.Flag{api.FlagPerl, api.FlagPerl | api.FlagFold, api.FlagAll} {
			with, without := ask("[^"+text[1:], 0, f), ask(text, 0, f)
			if with.wrong.E != api.OK || without.wrong.E != api.OK || !sets.Right(with.set) || !sets.Right(without.set) {
				t.Fatalf("%q, %d: %x, %x", text, f, with, without)
			}
			times := make([]int, api.MaxRune+1)
			for _, r := range slices.Concat(with.set, without.set) {
				for c := r.Lo; c <= r.Hi; c++ {
					times[c]++
				}
			}
			if c := slices.IndexFunc(times, func(n int) bool { return n != 1 }); c >= 0 {
				t.Errorf("%q, %d: %x stands in %d of both", text, f, c, times[c])
			}
		}
	}
}

// TestOrbits: P7.2: with FlagFold a class has all of an orbit or none, turned or not, and all that it has without.
func TestOrbits(t *testing.T) {
	for _, text := range right() {
		plain, folded, turned := ask(text, 0, api.FlagPerl), ask(text, 0, api.FlagPerl|api.FlagFold), ask("[^"+text[1:], 0, api.FlagPerl|api.FlagFold)
		for c := rune(0); c < 0x2200; c++ {
			orbit, some := tables.Orbit(c), false
			for _, d := range orbit {
				some = some || sets.Has(plain.set, d)
				if sets.Has(folded.set, d) != sets.Has(folded.set, c) || sets.Has(turned.set, d) != sets.Has(turned.set, c) {
					t.Fatalf("%q: of the orbit of %x not all, and not none", text, c)
				}
			}
			if some != sets.Has(folded.set, c) || some == sets.Has(turned.set, c) {
				t.Fatalf("%q: %x: %v, %v", text, c, sets.Has(folded.set, c), sets.Has(turned.set, c))
			}
		}
	}
}

// TestBehind: P7.3: each byte behind a class, and each two of some, change nothing of it.
func TestBehind(t *testing.T) {
	more := samples.Texts(2, "]", "[", "^", "-", ":", `\`, "d", "{", "}", "é", "\xff")
	for b := range 256 {
		more = append(more, string([]byte{byte(b)}))
	}
	for _, text := range append(right(), "[^]]", "[^^]", "[^-]", "[^a-]", `[^\d]`) {
		for _, f := range []api.Flag{api.FlagPerl, api.FlagPerl | api.FlagFold} {
			want := ask(text, 0, f)
			if want.wrong.E != api.OK || want.end != len(text) {
				t.Fatalf("%q, %d: %x", text, f, want)
			}
			for _, behind := range more {
				is(t, text+behind, 0, f, want)
			}
		}
	}
}

// TestMemory: rule P3: a set that was told may be changed, and its spare room: what another call told, and what is told behind that, is as before.
func TestMemory(t *testing.T) {
	for _, text := range append(right(), "[^a]", "[^]]", `[^\d]`, "[[:digit:]]", "[[:digit:][:alpha:]]", "[acegikmoqsuwy]") {
		for _, f := range []api.Flag{api.FlagPerl, api.FlagPerl | api.FlagFold} {
			first, second := ask(text, 0, f), ask(text, 0, f)
			was := answer{slices.Clone(first.set), first.end, first.wrong}
			room := first.set[:cap(first.set)]
			for i := range room {
				room[i] = api.Range{Lo: 77, Hi: 78}
			}
			if third := ask(text, 0, f); !second.same(was) || !third.same(was) {
				t.Errorf("%q, %d: %x, %x; not %x, when another answer was changed", text, f, second, third, was)
			}
		}
	}
}

// TestToldAgain: rule P3: the same call tells the same, whatever was asked between, an error too.
func TestToldAgain(t *testing.T) {
	asked := []string{"[a-c]", "[", "[b-a]", `[\q]`, "[^[:digit:]]", "", `[\d]`, "[[:x:]]", "[]", "[]]", `[\`}
	told := map[string]answer{}
	for range 3 {
		for _, s := range asked {
			got := ask(s, 0, api.FlagPerl)
			if was, before := told[s]; before && !got.same(was) {
				t.Errorf("Class(%q, 0, 32): %x; was %x", s, got, was)
			}
			told[s] = got
		}
	}
}
