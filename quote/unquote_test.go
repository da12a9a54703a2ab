package quote_test

import (
	"encoding/json"
	"fmt"
	"regexp"
	"strings"
	"testing"
	"unicode/utf16"
	"unicode/utf8"

	"loupe/api"
	"loupe/quote"
)

// behinds are what may stand behind a string's end: nothing of it is looked at.
func behinds() []string {
	return []string{"", " ", "a", `"`, `""`, `"b"`, `\`, `\u12`, `\udc00`, "\n", "\x00", "\xff", ",[1]", "é"}
}

// tells holds that a text is a string, whatever stands behind it.
func tells(t *testing.T, s, want string) {
	t.Helper()
	for _, more := range behinds() {
		if x, n, err := quote.Unquote(s + more); x != want || n != len(s) || err != api.OK {
			t.Errorf("%q: %q %d %d, not %q", s+more, x, n, err, want)
		}
	}
}

// refuses holds that a text is none, and where.
func refuses(t *testing.T, s string, want int) {
	t.Helper()
	if x, n, err := quote.Unquote(s); x != "" || n != want || err != api.ErrForm {
		t.Errorf("%q: %q %d %d, not at %d", s, x, n, err, want)
	}
}

// TestUnquote is P3.1: what is written.
func TestUnquote(t *testing.T) {
	for s, want := range map[string]string{
		`""`: "", `"a"`: "a", `" "`: " ", `"ab c"`: "ab c", "\"\x7f\"": "\x7f", `"é😀"`: "é😀", "\"\u0080\uffff\U00010000\U0010ffff\"": "\u0080\uffff\U00010000\U0010ffff", "\"\ufffd\"": "\ufffd", "\"a\ufffd\ufffdb\"": "a\ufffd\ufffdb",
		`"\n"`: "\n", `"\"\\\/\b\f\n\r\t"`: "\"\\/\b\f\n\r\t", `"/"`: "/", `"\/"`: "/", `"/\//"`: "///", `"\\n"`: `\n`, `"\\\n"`: "\\\n", `"\\\\"`: `\\`, `"\""`: `"`, `"\"\""`: `""`, `"a\nb"`: "a\nb", `"\ta\t"`: "\ta\t", `"bfnrtu"`: "bfnrtu",
		`"\u0000"`: "\x00", `"\u001f"`: "\x1f", `"\u001F"`: "\x1f", `"\u0020"`: " ", `"\u0022"`: `"`, `"\u002f"`: "/", `"\u005C"`: `\`, `"\u005cn"`: `\n`, `"\u005c\u006e"`: `\n`, `"\u007f"`: "\x7f", `"\u0041\u0042"`: "AB", `"x\u0041y"`: "xAy", `"\u00419"`: "A9", `"\u0041f"`: "Af",
		`"\u00e9"`: "é", `"\u00E9"`: "é", `"\uabcd\uABCD\uAbCd"`: "\uabcd\uabcd\uabcd", `"\ud7ff"`: "\ud7ff", `"\uD7FF\ue000"`: "\ud7ff\ue000", `"\uE000"`: "\ue000", `"\ufffd"`: "\ufffd", `"\uffff"`: "\uffff", `"\uFFFF"`: "\uffff",
		`"\ud800\udc00"`: "\U00010000", `"\uD800\uDC00"`: "\U00010000", `"\ud83d\uDE00"`: "😀", `"\uDBFF\udfff"`: "\U0010ffff", `"\ud800\udfff"`: "\U000103ff", `"\uD801\udc00"`: "\U00010400", `"\udbff\udc00"`: "\U0010fc00", `"\ud83d\ude00\ud83d\ude00"`: "😀😀", `"a\ud83d\ude00b"`: "a😀b", `"\ud83d\ude00\n\u0041"`: "😀\nA",
		`"\u0064800"`: "d800", `"\\ud800"`: `\ud800`, `"\\\\ud800"`: `\\ud800`, `"ud800"`: "ud800",
	} {
		tells(t, s, want)
	}
}

// TestUnquoteForm is P3.1: each place at which a text is no string.
func TestUnquoteForm(t *testing.T) {
	for s, want := range map[string]int{
		// Nothing at all, and no mark at the beginning.
		"": 0, "a": 0, `a"`: 0, ` "a"`: 0, `\"a"`: 0, `\`: 0, `\u0022`: 0, "'a'": 0, "\n\"a\"": 0, "\xff": 0, "\xff\"a\"": 0, "“a”": 0, "é": 0, "\x00": 0, "0": 0, "null": 0, "\ufeff\"\"": 0,
		// No mark at the end.
		`"`: 1, `"a`: 2, `"ab`: 3, `"é`: 3, `"😀`: 5, "\"\ufffd": 4, `"a\"`: 4, `"\"`: 3, `"\\`: 3, `"\n`: 3, `"\u0041`: 7, `"\u0022`: 7, `"\ud83d\ude00`: 13, `"'`: 2, `"\/a`: 4,
		// An escape that is none.
		`"\x"`: 1, `"\x41"`: 1, `"a\a"`: 2, `"\v"`: 1, `"\0"`: 1, `"\'"`: 1, `"\ "`: 1, `"\é"`: 1, "\"\\\n\"": 1, "\"\\\x00\"": 1, "\"\\\xff\"": 1, `"\N"`: 1, `"\B"`: 1, `"\T"`: 1, `"\U0041"`: 1, `"é\x"`: 3, `"\n\x"`: 3, `"\\\x"`: 3, `"\u0041\x"`: 7, `"\ud83d\ude00\x"`: 13, `"\8"`: 1, "\"\\\b\"": 1,
		`"\u"`: 1, `"\u1"`: 1, `"\u12"`: 1, `"\u123"`: 1, `"\uu"`: 1, `"\u12G4"`: 1, `"\ug000"`: 1, `"\u000g"`: 1, `"\u000G"`: 1, "\"\\u000`\"": 1, `"\u000@"`: 1, `"\u000:"`: 1, `"\u000/"`: 1, `"\u+123"`: 1, `"\u-123"`: 1, `"\u 123"`: 1, `"\u0_12"`: 1, `"\u_123"`: 1, `"\u0x1"`: 1, `"\u0x12"`: 1, `"\u12 4"`: 1, `"\u123 "`: 1, `"\u{41}"`: 1, `"\u123é"`: 1, `"\u12é"`: 1, "\"\\u123\xff\"": 1, "\"\\u123\n\"": 1, `"\u\u0041"`: 1, `"\u00\n1"`: 1, `"a\u12"`: 2, `"\u0041\u12"`: 7, `"\u00٣1"`: 1,
		// One that ends too soon.
		`"\`: 1, `"\u`: 1, `"\u0`: 1, `"\u00`: 1, `"\u004`: 1, `"ab\`: 3, `"ab\u00`: 3, `"\n\`: 3, `"é\u004`: 3, `"\\\`: 3,
		// A half of a pair alone.
		`"\ud800"`: 1, `"\uD800"`: 1, `"\udbff"`: 1, `"\udc00"`: 1, `"\uDFFF"`: 1, `"a\ud800b"`: 2, `"\ud800a"`: 1, `"é\udc00"`: 3, `"\ud800 \udc00"`: 1, `"\ud800\n\udc00"`: 1, `"\ud800\\udc00"`: 1, `"\ud800\u0041"`: 1, `"\ud800\u0041\udc00"`: 1, `"\ud800\udbff"`: 1, `"\ud800\ud800"`: 1, `"\ud800\ue000"`: 1, `"\ud7ff\udc00"`: 7, `"\ud800\ud800\udc00"`: 1, `"\ud800\udc00\udc00"`: 13, `"\ud800\udc00\ud800"`: 13, `"\ue000\udc00"`: 7, `"\u0041\ud800"`: 7, `"\ud800`: 1, `"\ud800\`: 1, `"\ud800\x"`: 1, `"\ud800\u`: 1, `"\ud800\udc0`: 1, `"\ud800\udc0"`: 1, `"\ud800\udcxx"`: 1, "\"\\ud800\xed\xb0\x80\"": 1, "\"\\ud800\xff\"": 1, "\"\\ud800\n\"": 1, `"\ud800"\udc00"`: 1, `"\ud800udc00"`: 1, `"\ud800/udc00"`: 1,
		// Two halves in the wrong order.
		`"\udc00\ud800"`: 1, `"\udfff\udbff"`: 1, `"\uDE00\uD83D"`: 1, `"\udc00\ud800\udc00"`: 1, `"\udc00\udc00"`: 1, `"\ud800\udc00\udc00\ud800"`: 13,
		// A rune below 32 that stands bare.
		"\"\n\"": 1, "\"\x00\"": 1, "\"\x1f\"": 1, "\"\t\"": 1, "\"\b\"": 1, "\"\f\"": 1, "\"\r\"": 1, "\"a\n\"": 2, "\"é\n\"": 3, "\"\\n\n\"": 3, "\"\n": 1, "\"a\n": 2, "\"a\n\xff\"": 2, "\"\\u000a\n\"": 7,
		// A byte that begins no rune.
		"\"\xff\"": 1, "\"a\xff\"": 2, "\"é\xff\"": 3, "\"\ufffd\xff\"": 4, "\"\xff\ufffd\"": 1, "\"\x80\"": 1, "\"\xc3\"": 1, "\"\xc3": 1, "\"a\xe2\x82\"": 2, "\"a\xe2\x82": 2, "\"\xf0\x9f\x98\"": 1, "\"\xc0\xa2\"": 1, "\"\xc0\x80\"": 1, "\"\xed\xa0\x80\"": 1, "\"\xed\xa0\xbd\xed\xb8\x80\"": 1, "\"\xf4\x90\x80\x80\"": 1, "\"\\n\xff\"": 3, "\"\xff\n\"": 1, "\"\xff\\x\"": 1, "\"\\x\xff\"": 1, "\"\\u0041\xbf\"": 7,
	} {
		refuses(t, s, want)
	}
}

// TestUnquoteNumbers is P3.1: the escape of each number, in small letters and in great ones, is its rune, or is none, if it is a half of a pair.
func TestUnquoteNumbers(t *testing.T) {
	for n := range rune(0x10000) {
		for _, form := range []string{`\u%04x`, `\u%04X`} {
			w := fmt.Sprintf(form, n)
			if !utf16.IsSurrogate(n) {
				tells(t, `"`+w+`"`, string(n))
				continue
			}
			refuses(t, `"`+w+`"`, 1)
			refuses(t, `"é`+w+`a"`, 3)
			refuses(t, `"\n`+w+`\u0041"`, 3)
		}
	}
}

// TestUnquotePairs is P3.1: of two halves all that are a pair are one rune, and no others are.
func TestUnquotePairs(t *testing.T) {
	firsts := []rune{0xd7ff, 0xd800, 0xd801, 0xd83d, 0xdbfe, 0xdbff, 0xdc00, 0xdfff, 0xe000}
	seconds := []rune{0, 0xd7ff, 0xd800, 0xdbff, 0xdc00, 0xdc01, 0xde00, 0xdffe, 0xdfff, 0xe000, 0xffff}
	hold := func(a, b rune) {
		s := fmt.Sprintf(`"\u%04x\u%04X"`, a, b)
		switch r := utf16.DecodeRune(a, b); {
		case r != utf8.RuneError:
			tells(t, s, string(r))
		case utf16.IsSurrogate(a):
			refuses(t, s, 1)
		case utf16.IsSurrogate(b):
			refuses(t, s, 7)
		default:
			tells(t, s, string([]rune{a, b}))
		}
	}
	for half := range rune(0x10000) {
		if half < 0xd700 || half > 0xe100 {
			continue
		}
		for _, b := range seconds {
			hold(half, b)
		}
		for _, a := range firsts {
			hold(a, half)
		}
	}
}

// wellBegun is a string's beginning, as far as nothing in it is wrong; bytes that begin no rune, and U+FFFD, which the library doesn't tell from them, are not in it.
var wellBegun = regexp.MustCompile(`^"(?:[^"\\\x00-\x1f\x{fffd}]|\\["\\/bfnrt]|\\u(?:[0-9abcefABCEF][0-9a-fA-F]{3}|[dD][0-7][0-9a-fA-F]{2}|[dD][89abAB][0-9a-fA-F]{2}\\u[dD][c-fC-F][0-9a-fA-F]{2}))*`)

// holdForm holds that a text is what the form says, and worth what the library says.
func holdForm(t *testing.T, s string) {
	at := len(wellBegun.FindString(s))
	if at == 0 || at == len(s) || s[at] != '"' {
		refuses(t, s, at)
		return
	}
	var want string
	if err := json.Unmarshal([]byte(s[:at+1]), &want); err != nil {
		t.Fatalf("%q: %v", s, err)
	}
	if x, n, err := quote.Unquote(s); x != want || n != at+1 || err != api.OK {
		t.Errorf("%q: %q %d %d, not %q", s, x, n, err, want)
	}
}

// TestUnquoteAll is P3.1: all texts of up to 6 pieces, of those that count, are what the form says.
func TestUnquoteAll(t *testing.T) {
	hold := func(s string) { holdForm(t, s) }
	hold("")
	for _, first := range []string{"a", `\`, "\n", "\xff", `\"`} {
		all(hold, first, []string{`"`, `\`, "a"}, 2)
	}
	all(hold, `"`, []string{`"`, `\`, "u", "0", "D", "8", "n", "\n", "\xff", "é"}, 5)
	all(hold, `"`, []string{`"`, `\`, "/", "b", `\u`, `\u00`, "41", "aF", "\x1f", "\xc3", "\xa9"}, 4)
	all(hold, `"`, []string{`"`, `\ud800`, `\uDBFF`, `\uDC00`, `\udfff`, `\u0041`, `\uD7ff`, `\ue000`, `\u`, "dc00", `\`, "a"}, 4)
}

// TestUnquoteLong is P3.1: of a long string no rune is lost, and a fault at its end is found.
func TestUnquoteLong(t *testing.T) {
	const many = 100000
	for w, r := range map[string]string{"a": "a", "é": "é", "😀": "😀", `\n`: "\n", `\"`: `"`, `\/`: "/", `\\`: `\`, `\u0041`: "A", `\ud83d\uDE00`: "😀", `a\té`: "a\té"} {
		s := strings.Repeat(w, many)
		if x, n, err := quote.Unquote(`"` + s + `"` + s); x != strings.Repeat(r, many) || n != len(s)+2 || err != api.OK {
			t.Errorf("%s: %d bytes, %d %d", w, len(x), n, err)
		}
		refuses(t, `"`+s, len(s)+1)
		refuses(t, `"`+s+`\x"`, len(s)+1)
		refuses(t, `"`+s+"\n\"", len(s)+1)
	}
}
