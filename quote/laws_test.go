package quote_test

import (
	"math/rand"
	"strings"
	"testing"
	"unicode/utf8"

	"loupe/api"
	"loupe/quote"
)

// edges are runes at which the writing changes, or might.
func edges() []rune {
	return []rune{0, 1, 7, 8, 9, 10, 11, 12, 13, 14, 30, 31, 32, 33, '"', '\'', '/', '0', '9', 'A', 'F', '[', '\\', ']', 'a', 'b', 'f', 'n', 'r', 't', 'u', 126, 127, 128, 0xe9, 0x7ff, 0x800, 0x2028, 0x2029, 0xd7ff, 0xe000, 0xfeff, 0xfffc, 0xfffd, 0xfffe, 65535, 65536, 0x103ff, 0x10400, 0x1f600, 0x10fffe, utf8.MaxRune}
}

// strs are valid strings: the edges alone and in pairs, and many more, the same in each run.
func strs(many int) []string {
	l := []string{"", `""`, `\`, `\\`, `\n`, `\u0041`, `\ud800`, "\n", "\r\n", "a/b", "</script>"}
	for _, a := range edges() {
		l = append(l, string(a))
		for _, b := range edges() {
			l = append(l, string([]rune{a, b}))
		}
	}
	r := rand.New(rand.NewSource(3))
	for len(l) < many {
		s := make([]rune, r.Intn(30))
		for i := range s {
			s[i] = edges()[r.Intn(len(edges()))]
			if r.Intn(4) == 0 {
				s[i] = rune(r.Intn(0xd800))
			}
		}
		l = append(l, string(s))
	}
	return l
}

// TestBack is P3.2: what is quoted is unquoted as it was, with anything behind.
func TestBack(t *testing.T) {
	for _, s := range strs(10000) {
		w := quote.Quote(s)
		tells(t, w, s)
		if quote.Utf(w) != len(w) || quote.Utf(s) != len(s) {
			t.Errorf("%q: no UTF-8: %q", s, w)
		}
		// A string that is cut short is none.
		for to := range len(w) {
			if x, n, err := quote.Unquote(w[:to]); x != "" || n > to || err != api.ErrForm {
				t.Errorf("%q: %q %d %d", w[:to], x, n, err)
			}
		}
	}
}

// TestBackRunes is P3.2 of every rune there is.
func TestBackRunes(t *testing.T) {
	for r := range rune(utf8.MaxRune + 1) {
		if !utf8.ValidRune(r) {
			continue
		}
		s := string(r)
		w := quote.Quote(s)
		if x, n, err := quote.Unquote(w + s); x != s || n != len(w) || err != api.OK {
			t.Errorf("%x: %q: %q %d %d", r, w, x, n, err)
		}
	}
}

// TestBackTwo is P3.2: of two strings, one behind the other, each is unquoted as it was.
func TestBackTwo(t *testing.T) {
	l := strs(4000)
	for i, a := range l {
		b := l[len(l)-1-i]
		both := quote.Quote(a) + quote.Quote(b)
		x, n, err := quote.Unquote(both)
		y, m, fault := quote.Unquote(both[n:])
		if x != a || y != b || n+m != len(both) || err != api.OK || fault != api.OK {
			t.Errorf("%q: %q %q", both, x, y)
		}
	}
}

// TestQuoteParts is P3.1: how a rune is written does not hang on what stands beside it, and no writing is shorter.
func TestQuoteParts(t *testing.T) {
	for _, s := range strs(4000) {
		var b strings.Builder
		for _, r := range s {
			b.WriteString(writing(r))
		}
		if got := quote.Quote(s); got != `"`+b.String()+`"` {
			t.Errorf("%q: %s, not %s", s, got, b.String())
		}
	}
}

// TestValid is P3.3: whatever is unquoted, of all sorts of texts, is valid UTF-8, and is told again as it was when it is quoted.
func TestValid(t *testing.T) {
	pieces := []string{`"`, `\`, `\n`, `\"`, `\/`, `\u`, `\u0041`, `\u0000`, `\uD7FF`, `\ud800`, `\udBFF`, `\uDC00`, `\udfff`, `\uE000`, `\ufffd`, `\uFFFF`, `\ud83d\ude00`, "d800", "dc00", "0", "a", "é", "😀", "\ufffd", "\x7f", "\x1f", "\xff", "\xc3", "\xa9", "\xed", "\xa0", "\x80", "\xf0\x9f"}
	r := rand.New(rand.NewSource(4))
	count := map[api.Errno]int{}
	for range 300000 {
		var b strings.Builder
		b.WriteByte('"')
		for range r.Intn(6) {
			b.WriteString(pieces[r.Intn(len(pieces))])
		}
		if r.Intn(4) > 0 {
			b.WriteByte('"')
		}
		s := b.String()
		x, n, err := quote.Unquote(s)
		count[err]++
		if err != api.OK {
			if x != "" || n < 1 || n > len(s) || err != api.ErrForm || quote.Utf(s[:n]) != n {
				t.Fatalf("%q: %q %d %d", s, x, n, err)
			}
			continue
		}
		if !utf8.ValidString(x) || n < 2 || n > len(s) || s[n-1] != '"' || !utf8.ValidString(s[:n]) {
			t.Fatalf("%q: %q %d", s, x, n)
		}
		if w := quote.Quote(x); len(w) > n {
			t.Fatalf("%q: %q is shorter than %q", s, s[:n], w)
		}
		tells(t, quote.Quote(x), x)
	}
	if count[api.OK] < 1000 || count[api.ErrForm] < 1000 {
		t.Error("too few of one sort:", count)
	}
}

// TestAnyBytes is P3.1: no text makes a call fail, be it UTF-8 or not.
func TestAnyBytes(t *testing.T) {
	r := rand.New(rand.NewSource(5))
	for range 100000 {
		b := make([]byte, r.Intn(20))
		for i := range b {
			b[i] = byte(r.Intn(256))
			if r.Intn(3) == 0 {
				b[i] = `"\ud8/n`[r.Intn(7)]
			}
		}
		s := string(b)
		if n := quote.Utf(s); (n == len(s)) != utf8.ValidString(s) {
			t.Fatalf("%q: %d", s, n)
		}
		quote.Quote(s)
		if !strings.Contains(s, "\ufffd") {
			holdForm(t, s)
		}
	}
}
