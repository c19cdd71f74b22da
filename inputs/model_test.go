package inputs_test

import (
	"math"
	"testing"

	"martello/api"
	"martello/inputs"
)

// model is an input as the chapter defines it, worked out in another manner than the program's.
type model struct {
	text  string
	runes []rune
	offs  []int
}

// newModel takes at each place the rune whose UTF-8 stands there; no rune's does, where one byte is U+FFFD.
func newModel(text string) model {
	m := model{text: text}
	for off := 0; off < len(text); {
		c, n := standing(text[off:])
		m.runes, m.offs = append(m.runes, c), append(m.offs, off)
		off += n
	}
	m.offs = append(m.offs, len(text))
	return m
}

// standing puts the bits of one byte to four together, and holds the UTF-8 of what they are against these bytes.
func standing(s string) (rune, int) {
	masks := []byte{0x7f, 0x1f, 0x0f, 0x07}
	for n := 1; n <= 4 && n <= len(s); n++ {
		c := rune(s[0] & masks[n-1])
		for _, b := range []byte(s[1:n]) {
			c = c<<6 | rune(b&0x3f)
		}
		if string(c) == s[:n] {
			return c, n
		}
	}
	return 0xfffd, 1
}

func (m model) place(off int) int {
	for i, o := range m.offs {
		if o == off {
			return i
		}
	}
	return -1
}

func (m model) isPlace(i int) bool { return 0 <= i && i <= len(m.runes) }

func (m model) rune(i int) rune {
	if i < 0 || i >= len(m.runes) {
		return -1
	}
	return m.runes[i]
}

func (m model) off(i int) int {
	if !m.isPlace(i) {
		return -1
	}
	return m.offs[i]
}

func (m model) bytes(from, to int) string {
	if !m.isPlace(from) || !m.isPlace(to) || from > to {
		return ""
	}
	return m.text[m.offs[from]:m.offs[to]]
}

func (m model) at(i int) api.At {
	if !m.isPlace(i) {
		return 0
	}
	var word = map[rune]bool{'_': true}
	for c := rune(0); c < 26; c++ {
		word['a'+c], word['A'+c], word['0'+c%10] = true, true, true
	}
	var sum api.At
	for at, so := range map[api.At]bool{
		1:  i == 0,
		2:  i == len(m.runes),
		4:  i == 0 || m.rune(i-1) == 10,
		8:  i == len(m.runes) || m.rune(i) == 10,
		16: word[m.rune(i-1)] != word[m.rune(i)],
		32: word[m.rune(i-1)] == word[m.rune(i)],
	} {
		if so {
			sum += at
		}
	}
	return sum
}

func (m model) turned() string {
	var s string
	for _, c := range m.runes {
		s = string(c) + s
	}
	return s
}

// kinds are all that there are.
var kinds = []api.Kind{api.KindText, api.KindBytes, api.KindReader}

// numbers are places, and what is none, of an input of n runes or bytes.
func numbers(n int) []int {
	l := []int{math.MinInt, math.MinInt32, -2, -1}
	for i := 0; i <= n+2; i++ {
		l = append(l, i)
	}
	return append(l, math.MaxInt32, math.MaxInt)
}

func made(t *testing.T, k api.Kind, text string) *inputs.Input {
	t.Helper()
	in, e := inputs.New(k, []byte(text))
	if e != api.OK || in == nil {
		t.Fatalf("New(%d, %q): %v, %v", k, text, in, e)
	}
	return in
}

// hold holds all that an input tells against the model of its text.
func hold(t *testing.T, in *inputs.Input, k api.Kind, text string) {
	t.Helper()
	m := newModel(text)
	if in.Kind() != k || in.Len() != len(m.runes) {
		t.Errorf("%q: Kind %d, Len %d; not %d, %d", text, in.Kind(), in.Len(), k, len(m.runes))
	}
	for _, i := range numbers(len(text)) {
		if c := in.Rune(i); c != m.rune(i) {
			t.Errorf("%q: Rune(%d) %x; not %x", text, i, c, m.rune(i))
		}
		if o := in.Off(i); o != m.off(i) {
			t.Errorf("%q: Off(%d) %d; not %d", text, i, o, m.off(i))
		}
		if p := in.Place(i); p != m.place(i) {
			t.Errorf("%q: Place(%d) %d; not %d", text, i, p, m.place(i))
		}
		if a := in.At(i); a != m.at(i) {
			t.Errorf("%q: At(%d) %d; not %d", text, i, a, m.at(i))
		}
	}
	for _, from := range numbers(len(m.runes)) {
		for _, to := range numbers(len(m.runes)) {
			if b := in.Bytes(from, to); string(b) != m.bytes(from, to) {
				t.Errorf("%q: Bytes(%d, %d) %q; not %q", text, from, to, b, m.bytes(from, to))
			}
		}
	}
}

// whole tells whether Bytes of places that stand behind one another are, together, those from the first to the last (P1.2), and all of them the text.
func whole(t *testing.T, in *inputs.Input, text string) {
	t.Helper()
	if b := in.Bytes(0, in.Len()); string(b) != text {
		t.Errorf("%q: all bytes %q", text, b)
	}
	for i := 0; i <= in.Len(); i++ {
		for j := i; j <= in.Len(); j++ {
			for k := j; k <= in.Len(); k++ {
				both := string(in.Bytes(i, j)) + string(in.Bytes(j, k))
				if all := string(in.Bytes(i, k)); both != all {
					t.Errorf("%q: from %d by %d to %d: %q; not %q", text, i, j, k, both, all)
				}
			}
		}
	}
}

// written is the UTF-8 of an input's runes.
func written(in *inputs.Input) string {
	var l []rune
	for i := 0; i < in.Len(); i++ {
		l = append(l, in.Rune(i))
	}
	return string(l)
}
