package inputs_test

import (
	"bytes"
	"math"
	"slices"
	"strings"
	"testing"
	"unicode/utf8"

	"martello/api"
	"martello/inputs"
)

// The calls of the chapter, by their signatures.
var (
	_ func(api.Kind, []byte) (*inputs.Input, api.Errno) = inputs.New
	_ func(*inputs.Input) api.Kind                      = (*inputs.Input).Kind
	_ func(*inputs.Input) int                           = (*inputs.Input).Len
	_ func(*inputs.Input, int) rune                     = (*inputs.Input).Rune
	_ func(*inputs.Input, int) int                      = (*inputs.Input).Off
	_ func(*inputs.Input, int) int                      = (*inputs.Input).Place
	_ func(*inputs.Input, int, int) []byte              = (*inputs.Input).Bytes
	_ func(*inputs.Input, int) api.At                   = (*inputs.Input).At
	_ func(*inputs.Input) *inputs.Input                 = (*inputs.Input).Turned
)

// texts are ordinary ones, and the edges: nothing; no UTF-8 ahead, within, at the end; line feeds first and last; runes of each length, the first and the last of it; what looks like UTF-8 and is none.
var texts = []string{
	"", "a", "\n", "_", " ", "\x00", "aé", "aé\n", "martello", "two words_2 Z9", "a b", "\na", "a\n", "\n\n", "\na\nb\n", "a\r\nb",
	"\u007f\u0080\u07ff\u0800\uffff\U00010000\U0010ffff", "Äöü ß", "世界", "😀a😀", "\u212a", "é\u0301", "\ufeff", "\ufffd", "0123456789", "/09:@AZ[^_`az{",
	"\xff", "\xffa", "a\xffb", "a\xff", "\xff\xff", "\x80", "\xc3", "\xc3a", "a\xc3", "\xa9\xc3", "\xe2\x82", "\xe2\x82\xac", "\xe2\x82a", "\xf0\x9f\x98", "\xf0\x9f\x98\x80", "\xff\n\xff",
	"\xc0\x80", "\xc1\xbf", "\xe0\x80\x80", "\xe0\x9f\xbf", "\xf0\x80\x80\x80", "\xed\xa0\x80", "\xed\xbf\xbf", "\xed\x9f\xbf", "\xee\x80\x80", "\xf4\x8f\xbf\xbf", "\xf4\x90\x80\x80", "\xf5\x80\x80\x80", "\xf8\x88\x80\x80\x80",
}

// promises holds an input of a text against P1.1 (N2 to N4), P1.2 and P1.3.
func promises(t *testing.T, k api.Kind, text string) {
	t.Helper()
	in := made(t, k, text)
	hold(t, in, k, text)
	hold(t, in.Turned(), k, newModel(text).turned())
	whole(t, in, text)
	if w := written(in); utf8.ValidString(text) && w != text {
		t.Errorf("%q: its runes are %q", text, w)
	}
}

// TestTexts: all promises of these texts, and of all kinds.
func TestTexts(t *testing.T) {
	for _, text := range texts {
		for _, k := range kinds {
			promises(t, k, text)
		}
	}
}

// TestShortTexts: all promises of every text of up to four of these bytes.
func TestShortTexts(t *testing.T) {
	letters := []byte{'a', '9', '_', ' ', '\n', 0x80, 0x9f, 0xa9, 0xc3, 0xe2, 0xed, 0xf0, 0xff}
	all := []string{""}
	for from, n := 0, 1; n <= 4; n++ {
		to := len(all)
		for _, s := range all[from:to] {
			for _, b := range letters {
				all = append(all, s+string([]byte{b}))
			}
		}
		from = to
	}
	for i, text := range all {
		promises(t, kinds[i%len(kinds)], text)
		if t.Failed() {
			return
		}
	}
}

// TestNew: N1's errors, in their order, and its bounds.
func TestNew(t *testing.T) {
	full := bytes.Repeat([]byte("é"), api.MaxText/2)
	over := append(slices.Clone(full), 'a')
	for _, k := range []api.Kind{math.MinInt, -1, 0, 4, 5, 7, math.MaxInt} {
		for _, text := range [][]byte{nil, []byte("a"), full, over} {
			if in, e := inputs.New(k, text); in != nil || e != api.ErrArg {
				t.Errorf("kind %d, %d bytes: %v, %v", k, len(text), in != nil, e)
			}
		}
	}
	for _, k := range kinds {
		if in, e := inputs.New(k, over); in != nil || e != api.ErrTooMany {
			t.Errorf("kind %d, one byte more: %v, %v", k, in != nil, e)
		}
		in, e := inputs.New(k, full)
		if e != api.OK || in == nil || in.Kind() != k || in.Len() != api.MaxText/2 {
			t.Fatalf("kind %d, MaxText bytes: %v, %v", k, in != nil, e)
		}
		if n := in.Len(); in.Off(n) != api.MaxText || in.Off(n-1) != api.MaxText-2 || in.Rune(n-1) != 'é' || in.Place(api.MaxText-1) != -1 || in.Place(api.MaxText) != n || !bytes.Equal(in.Bytes(0, n), full) {
			t.Errorf("kind %d, MaxText bytes: %d runes", k, n)
		}
		if in, e := inputs.New(k, nil); e != api.OK || in == nil || in.Len() != 0 || in.Kind() != k {
			t.Errorf("kind %d, nil: %v, %v", k, in, e)
		}
	}
}

// TestExamples: the chapter's table.
func TestExamples(t *testing.T) {
	in := made(t, api.KindText, "aé")
	if in.Len() != 2 || in.Off(1) != 1 || in.Off(2) != 3 || in.At(0) != 1+4+16 || in.At(1) != 16 || in.At(2) != 2+8+32 {
		t.Error(in.Len(), in.Off(1), in.Off(2), in.At(0), in.At(1), in.At(2))
	}
	in = made(t, api.KindText, "\xff\x61")
	if in.Rune(0) != 0xfffd || in.Off(1) != 1 || in.Place(1) != 1 {
		t.Error(in.Rune(0), in.Off(1), in.Place(1))
	}
}

// TestAt: N3, written out.
func TestAt(t *testing.T) {
	for _, x := range []struct {
		text string
		want []api.At
	}{
		{"", []api.At{1 + 2 + 4 + 8 + 32}},
		{"a", []api.At{1 + 4 + 16, 2 + 8 + 16}},
		{" ", []api.At{1 + 4 + 32, 2 + 8 + 32}},
		{"\n", []api.At{1 + 4 + 8 + 32, 2 + 4 + 8 + 32}},
		{"\na\n", []api.At{1 + 4 + 8 + 32, 4 + 16, 8 + 16, 2 + 4 + 8 + 32}},
		{"a_Z", []api.At{1 + 4 + 16, 32, 32, 2 + 8 + 16}},
		{"a\rb", []api.At{1 + 4 + 16, 16, 16, 2 + 8 + 16}},
		{"9\xff0", []api.At{1 + 4 + 16, 16, 16, 2 + 8 + 16}},
		{"k\u212a", []api.At{1 + 4 + 16, 16, 2 + 8 + 32}},
	} {
		in := made(t, api.KindText, x.text)
		for i, want := range x.want {
			if a := in.At(i); a != want {
				t.Errorf("%q: At(%d) %d; not %d", x.text, i, a, want)
			}
		}
		if len(x.want) != in.Len()+1 || in.At(-1) != 0 || in.At(len(x.want)) != 0 {
			t.Errorf("%q: places", x.text)
		}
	}
}

// TestWordRunes: which runes, and which only look like them, are a word's.
func TestWordRunes(t *testing.T) {
	const word = "0123456789ABCDEFGHIJKLMNOPQRSTUVWXYZ_abcdefghijklmnopqrstuvwxyz"
	for c := rune(0); c < 0x3000; c++ {
		in := made(t, api.KindText, string(c))
		want := api.AtNoWord
		if strings.ContainsRune(word, c) {
			want = api.AtWord
		}
		for i := range 2 {
			if a := in.At(i) & (api.AtWord + api.AtNoWord); a != want {
				t.Errorf("%x: At(%d) %d; not %d", c, i, a, want)
			}
		}
	}
}

// TestTurned: N4, written out; turned bytes that were no UTF-8 are U+FFFD, of three bytes, also above MaxText.
func TestTurned(t *testing.T) {
	for text, want := range map[string]string{"": "", "aé\n": "\néa", "\xffa": "a\ufffd", "\xc3a\xa9": "\ufffda\ufffd", "世界": "界世"} {
		for _, k := range kinds {
			back := made(t, k, text).Turned()
			if s := string(back.Bytes(0, back.Len())); s != want || back.Kind() != k {
				t.Errorf("%q: turned %q, kind %d; not %q, %d", text, s, back.Kind(), want, k)
			}
		}
	}
	long := made(t, api.KindBytes, strings.Repeat("\xff", api.MaxText-1)+"a").Turned()
	if long.Len() != api.MaxText || long.Off(long.Len()) != 3*api.MaxText-2 || long.Rune(0) != 'a' || long.Rune(1) != 0xfffd || long.Off(2) != 4 {
		t.Error("long:", long.Len(), long.Off(long.Len()))
	}
	if again := long.Turned(); again.Off(again.Len()) != 3*api.MaxText-2 || again.Rune(api.MaxText-1) != 'a' {
		t.Error("long, twice:", again.Len())
	}
}

// TestMemory: rule P3: the list that is handed in is neither changed nor kept, its spare room neither; what comes out is shared with nothing.
func TestMemory(t *testing.T) {
	for _, k := range kinds {
		room := []byte("aé\xff\nspare room")
		text, before := room[:5], string(room)
		in, e := inputs.New(k, text)
		if e != api.OK {
			t.Fatal(e)
		}
		back := in.Turned()
		for _, i := range numbers(6) {
			in.Rune(i)
			in.Off(i)
			in.Place(i)
			in.At(i)
			_ = append(in.Bytes(i, 3), "more"...)
		}
		if string(room) != before {
			t.Errorf("kind %d: the list is %q", k, room)
		}
		fill(room)
		hold(t, in, k, "aé\xff\n")
		all := in.Bytes(0, 4)
		part := in.Bytes(1, 3)
		fill(all[:cap(all)])
		if string(part) != "é\xff" {
			t.Errorf("kind %d: two answers share: %q", k, part)
		}
		fill(part[:cap(part)])
		hold(t, in, k, "aé\xff\n")
		behind := back.Bytes(0, 4)
		fill(behind[:cap(behind)])
		hold(t, back, k, "\n\ufffdéa")
	}
}

func fill(l []byte) {
	for i := range l {
		l[i] = 'x'
	}
}
