package scan_test

import (
	"martello/samples"
	"strconv"
	"strings"
	"testing"
)

// counts holds Count of a text, behind each of what may stand ahead, against what it is at its beginning.
func counts(t *testing.T, text string, want counted) {
	t.Helper()
	for _, ahead := range aheads() {
		at, moved := len(ahead), want
		if want.is {
			moved.end += at
		}
		if got := askCount(ahead+text, at); got != moved {
			t.Errorf("Count(%.80q, %d): %v; not %v", ahead+text, at, got, moved)
		}
	}
}

// TestCount: C2: each of the three forms, written out, with noughts ahead, and with what may stand behind.
func TestCount(t *testing.T) {
	for text, want := range map[string]counted{
		"{0}": {0, 0, 3, true}, "{1}": {1, 1, 3, true}, "{12}": {12, 12, 4, true}, "{0,}": {0, -1, 4, true}, "{2,}": {2, -1, 4, true}, "{0,0}": {0, 0, 5, true}, "{2,3}": {2, 3, 5, true}, "{3,2}": {3, 2, 5, true}, "{9,10}": {9, 10, 6, true},
		"{007}": {7, 7, 5, true}, "{00,01}": {0, 1, 7, true}, "{0001000}": {1000, 1000, 9, true}, "{0001001,}": {1001, -1, 10, true},
		"{999}": {999, 999, 5, true}, "{1000}": {1000, 1000, 6, true}, "{1001}": {1001, 1001, 6, true}, "{1002}": {1001, 1001, 6, true}, "{1000,}": {1000, -1, 7, true}, "{1001,}": {1001, -1, 7, true}, "{5000,}": {1001, -1, 7, true},
		"{0,1000}": {0, 1000, 8, true}, "{0,1001}": {0, 1001, 8, true}, "{0,2000}": {0, 1001, 8, true}, "{2000,3}": {1001, 3, 8, true}, "{2000,3000}": {1001, 1001, 11, true}, "{10000000,1}": {1001, 1, 12, true},
	} {
		for _, behind := range []string{"", "}", "{3}", "?", "a", "é", "\xff", ",", "1"} {
			counts(t, text+behind, want)
		}
	}
}

// TestCountNumbers: C2: each number up to above the greatest, in each of the forms.
func TestCountNumbers(t *testing.T) {
	for n := range 2100 {
		digits := strconv.Itoa(n)
		times, long := min(n, 1001), len(digits)
		for text, want := range map[string]counted{
			"{" + digits + "}": {times, times, long + 2, true}, "{" + digits + ",}": {times, -1, long + 3, true}, "{" + digits + "," + digits + "}": {times, times, 2*long + 3, true}, "{7," + digits + "}": {7, times, long + 4, true}, "{" + digits + ",7}": {times, 7, long + 4, true},
		} {
			if got := askCount(text, 0); got != want {
				t.Errorf("Count(%q, 0): %v; not %v", text, got, want)
			}
		}
	}
}

// TestCountLong: C2: numbers of more digits than an int holds, those that would come round to a small one among them.
func TestCountLong(t *testing.T) {
	for _, digits := range []string{"2147483648", "4294967296", "4294967298", "9223372036854775807", "9223372036854775808", "18446744073709551615", "18446744073709551616", "18446744073709551618", "340282366920938463463374607431768211458", "1" + strings.Repeat("0", 1000), strings.Repeat("9", 100000)} {
		long := len(digits)
		counts(t, "{"+digits+"}", counted{1001, 1001, long + 2, true})
		counts(t, "{"+digits+",}", counted{1001, -1, long + 3, true})
		counts(t, "{2,"+digits+"}", counted{2, 1001, long + 4, true})
		counts(t, "{"+digits+",2}", counted{1001, 2, long + 4, true})
		counts(t, "{"+digits, counted{})
	}
	noughts := strings.Repeat("0", 100000)
	counts(t, "{"+noughts+"}", counted{0, 0, 100002, true})
	counts(t, "{"+noughts+"12,"+noughts+"1000}", counted{12, 1000, 200009, true})
}

// TestNoCount: C2: what is none: no digits, a sign between, no closing brace; all is zero.
func TestNoCount(t *testing.T) {
	for _, text := range []string{
		"", "a", "}", "1}", "0", ",", "{", "{}", "{,}", "{,2}", "{,0}", "{,,}", "{1,,}", "{1,2,}", "{1,2,3}", "{,1,2}", "{1", "{12", "{1,", "{1,2", "{1000,1000", "{{1}}", "{1{2}", "{1,{2}}",
		"{ 1}", "{1 }", "{1, 2}", "{1 ,2}", "{1,2 }", "{+1}", "{-1}", "{1,-1}", "{1,+2}", "{1.0}", "{1e1}", "{0x1}", "{1_0}", "{a}", "{A}", "{f,}", "{1a}", "{1,a}", "{1,2a}", "{a1}", "{1;2}", "{1:2}", "{1/2}", "{1-2}", "{1..2}",
		"{1)", "{1]", "{1,2)", "(1}", "[1}", "{1\x00}", "{1\n}", "{é}", "{1é}", "{1,é}", "é{1}", "{\xff}", "{1\xff}", "{1,\xff}", "\xff{1}", "{٣}", "{１}", "{²}", "\\{1}", "x{1}",
	} {
		counts(t, text, counted{})
	}
}

// TestCountShort: C2: every short text, at each of its places, against the model.
func TestCountShort(t *testing.T) {
	all := samples.Texts(5, "{", "}", ",", "0", "1", "9", "-", "a", "é", "\xff")
	for _, s := range samples.Texts(8, "0", "1", ",", "}") {
		all = append(all, "{"+s, "{100"+s)
	}
	for _, s := range all {
		for at := range len(s) + 1 {
			got, want := askCount(s, at), countModel(s, at)
			if got != want {
				t.Fatalf("Count(%q, %d): %v; not %v", s, at, got, want)
			}
			if !got.is {
				continue
			}
			if alone := askCount(s[at:got.end], 0); got.end <= at || alone.least != got.least || alone.most != got.most || alone.end != got.end-at {
				t.Fatalf("Count(%q, %d): %v; alone %v", s, at, got, alone)
			}
		}
	}
}
