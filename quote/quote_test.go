package quote_test

import (
	"fmt"
	"strings"
	"testing"
	"unicode/utf8"

	"loupe/quote"
)

// TestQuote is P3.1: how a string is written.
func TestQuote(t *testing.T) {
	for s, want := range map[string]string{
		"": `""`, " ": `" "`, "a": `"a"`, "hello, world": `"hello, world"`, "'`": "\"'`\"",
		"\n": `"\n"`, "a\nb": `"a\nb"`, "\n\n": `"\n\n"`, "\r\n": `"\r\n"`, "\na": `"\na"`, "a\n": `"a\n"`,
		"\"": `"\""`, "\\": `"\\"`, "\b": `"\b"`, "\f": `"\f"`, "\r": `"\r"`, "\t": `"\t"`, "\b\f\n\r\t\"\\": `"\b\f\n\r\t\"\\"`,
		"/": `"/"`, "//a/b": `"//a/b"`, "\\/": `"\\/"`, "a/\nb/": `"a/\nb/"`,
		"b": `"b"`, "f": `"f"`, "n": `"n"`, "r": `"r"`, "t": `"t"`, "u": `"u"`, `\n`: `"\\n"`, `\u0041`: `"\\u0041"`, `""`: `"\"\""`,
		"\x00": `"\u0000"`, "\x01": `"\u0001"`, "\a": `"\u0007"`, "\v": `"\u000b"`, "\x0e": `"\u000e"`, "\x0f": `"\u000f"`, "\x10": `"\u0010"`, "\x19": `"\u0019"`, "\x1a": `"\u001a"`, "\x1f": `"\u001f"`,
		"\x00\x1f \x7f": "\"\\u0000\\u001f \x7f\"", "1\x002": `"1\u00002"`,
		"\u0080": "\"\u0080\"", "é": `"é"`, "\u2028\u2029": "\"\u2028\u2029\"", "<&>": `"<&>"`, "\ud7ff\ue000": "\"\ud7ff\ue000\"", "\ufeff": "\"\ufeff\"", "\ufffd": "\"\ufffd\"", "\uffff": "\"\uffff\"", "\U00010000": "\"\U00010000\"", "😀": `"😀"`, "\U0010ffff": "\"\U0010ffff\"",
		"é\"😀\n\ufffd\x00\U0010ffff": "\"é\\\"😀\\n\ufffd\\u0000\U0010ffff\"",
	} {
		if got := quote.Quote(s); got != want {
			t.Errorf("%q: %s, not %s", s, got, want)
		}
	}
}

// writing is how a rune is to be written.
func writing(r rune) string {
	switch r {
	case '"', '\\':
		return `\` + string(r)
	case 8, 9, 10, 12, 13:
		return `\` + "btn fr"[r-8:r-7]
	}
	if r < 32 {
		return fmt.Sprintf(`\u%04x`, r)
	}
	return string(r)
}

// TestQuoteRunes is P3.1: every rune is written as itself or by its shortest escape, whatever stands beside it.
func TestQuoteRunes(t *testing.T) {
	for r := range rune(utf8.MaxRune + 1) {
		if !utf8.ValidRune(r) {
			continue
		}
		s, w := string(r), writing(r)
		if got := quote.Quote(s); got != `"`+w+`"` {
			t.Errorf("%x: %s, not %s", r, got, w)
		}
		if got := quote.Quote("é" + s + s + "/"); got != `"é`+w+w+`/"` {
			t.Errorf("%x among others: %s", r, got)
		}
	}
}

// TestQuoteLong is P3.1: of a long string no rune is lost.
func TestQuoteLong(t *testing.T) {
	for _, r := range []rune{0, 10, 31, '"', '\\', '/', 'a', 0x7f, 0xe9, 0xffff, 0x10000} {
		if got := quote.Quote(strings.Repeat(string(r), 100000)); got != `"`+strings.Repeat(writing(r), 100000)+`"` {
			t.Errorf("%x: %d bytes, %.20s", r, len(got), got)
		}
	}
}

// TestUtf is P3.1: where a text is no UTF-8.
func TestUtf(t *testing.T) {
	for s, want := range map[string]int{
		"": 0, "a": 1, "\x00": 1, "\x7f": 1, "a\nb": 3, "é": 2, "\ud7ff": 3, "\ue000": 3, "\ufffd": 3, "\uffff": 3, "\U00010000": 4, "\U0010ffff": 4, "aé\ufffd😀": 10, "\ufffd\ufffd": 6,
		"\x80": 0, "\xbf": 0, "\xff": 0, "\xfe": 0, "a\xff": 1, "\xffa": 0, "é\xff": 2, "\ufffd\xff": 3, "\xff\ufffd": 0, "a\xffb\xff": 1, "é\x80": 2, "😀\x80": 4,
		"\xc3": 0, "a\xc3": 1, "\xc3a": 0, "\xc3\xc3\xa9": 0, "\xe2\x82": 0, "a\xe2\x82": 1, "\xe2\x82a": 0, "\xf0\x9f\x98": 0, "é\xf0\x9f\x98": 2, "\xef\xbf": 0, "\xef": 0,
		"\xc0\x80": 0, "\xc1\xbf": 0, "\xe0\x80\x80": 0, "\xe0\x9f\xbf": 0, "\xf0\x80\x80\x80": 0, "\xf0\x8f\xbf\xbf": 0,
		"\xed\xa0\x80": 0, "\xed\xbf\xbf": 0, "a\xed\xa0\x80": 1, "\xed\xa0\xbd\xed\xb8\x80": 0, "\xf4\x90\x80\x80": 0, "\xf5\x80\x80\x80": 0, "\xf8\x88\x80\x80\x80": 0,
	} {
		if got := quote.Utf(s); got != want {
			t.Errorf("%q: %d, not %d", s, got, want)
		}
	}
}

// TestUtfAll is P3.1: of all texts of up to 5 bytes of those at the edges, what is ahead of the place is valid, and no rune begins there.
func TestUtfAll(t *testing.T) {
	hold := func(s string) {
		n := quote.Utf(s)
		if n < 0 || n > len(s) || !utf8.ValidString(s[:n]) {
			t.Fatalf("%q: %d", s, n)
		}
		for to := n + 1; to <= len(s); to++ {
			if utf8.ValidString(s[n:to]) {
				t.Fatalf("%q: %d, but a rune begins there", s, n)
			}
		}
	}
	all(hold, "", []string{"a", "\x80", "\x8f", "\x90", "\x9f", "\xa0", "\xbf", "\xc2", "\xe0", "\xed", "\xef", "\xf0", "\xf4", "\xbd", "\xff"}, 5)
}

// all holds every text that goes on behind s with up to so many of the pieces.
func all(hold func(s string), s string, pieces []string, more int) {
	hold(s)
	if more == 0 {
		return
	}
	for _, p := range pieces {
		all(hold, s+p, pieces, more-1)
	}
}
