package lex_test

import (
	"strings"
	"testing"

	"loupe/api"
	"loupe/lex"
)

// TestBytes is P8.1: each byte alone is a blank, a mark, a word, a number, or what a number or a string begins with; or no token begins with it, and so it is among others.
func TestBytes(t *testing.T) {
	for b := range 256 {
		s := string([]byte{byte(b)})
		switch {
		case strings.Contains(" \t\n\r", s):
			tells(t, s)
		case strings.Contains(".|,:()[]{}<>?", s):
			tells(t, s, mark(s))
			tells(t, "a "+s+"\n", word("a"), at(2, mark(s)))
		case s == "_" || 'a' <= b && b <= 'z' || 'A' <= b && b <= 'Z':
			tells(t, s, word(s))
		case s == "0":
			tells(t, s, number(false, "", 0))
		case '1' <= b && b <= '9':
			tells(t, s, whole(s))
		case s == "-" || s == `"`:
			refuses(t, s, api.ErrForm, 1)
			refuses(t, "a "+s, api.ErrForm, 3)
		default:
			for _, ahead := range []string{"", " ", "a", "a ", ".a", ".", ". ", "1", "1.5 ", `"x"`, `."x"`, "[", "<=", "null|"} {
				for _, behind := range []string{"", " ", "a", "1", ")", `"`} {
					refuses(t, ahead+s+behind, api.ErrForm, len(ahead))
				}
			}
		}
	}
}

// TestBegin is P8.1: where no token begins.
func TestBegin(t *testing.T) {
	for s, place := range map[string]int{
		"$": 0, "#": 0, "%": 0, "&": 0, "'a'": 0, "*": 0, "+": 0, "+1": 0, "/": 0, ";": 0, "@": 0, `\`: 0, `\"`: 0, "^": 0, "`a`": 0, "~": 0, "\x00": 0, "\x7f": 0, "\v": 0, "\f": 0, "\b": 0,
		"=": 0, "!": 0, "=a": 0, "!a": 0, "! =": 0, " =": 1, "a=": 1, ".a=1": 2, ".a = 1": 3, "===": 2, "!==": 2, "<==": 2, ">==": 2, "<=!": 2, ".a==!": 4, "a!b": 1,
		"é": 0, "aé": 1, "éa": 0, ".é": 1, ".aé": 2, ". é": 2, "1é": 1, " \u00a0": 1, "\ufeff": 0, "\ufeff.a": 0, "a\u2028b": 1, "😀": 0, "\x80": 0, "\xff": 0, "a\xffb": 1, ".\xff": 1, "\xc3": 0, "_\xa9": 1, "“a”": 0, "\u0661": 0, "ａ": 0,
		".$": 1, "..$": 2, ".+": 1, ".=": 1, ".a.$": 3, "a$": 1, "a $": 2, `"a"$`: 3, "(a$)": 2, "[1,2$]": 4, "\n\n$": 2, "\v.a": 0, ".a\f": 2,
	} {
		refuses(t, s, api.ErrForm, place)
	}
}

// TestWrongStrings is P8.1: strings that do not end, or are written otherwise than may be, also a field's: the place is within.
func TestWrongStrings(t *testing.T) {
	for s, place := range map[string]int{
		`"`: 1, `"a`: 2, `"a b`: 4, `"é`: 3, `"\"`: 3, `"a\"`: 4, `"\\`: 3, `"\n`: 3, `"|.a`: 4,
		`"\`: 1, `"\x"`: 1, `"a\x"`: 2, `"\u"`: 1, `"\u12"`: 1, `"\u12g4"`: 1, `"ab\u00`: 3, `"\ud800"`: 1, `"\udc00"`: 1, `"a\ud800a"`: 2, `"\ud800\u0041"`: 1, `"\'"`: 1, `"\N"`: 1,
		"\"\n\"": 1, "\"a\tb\"": 2, "\"\x00\"": 1, "\"a\x1f": 2, "\"\xff\"": 1, "\"a\xc3\"": 2, "\"é\x80\"": 3, "\"\xed\xa0\x80\"": 1, "\"a\n": 2,
	} {
		for _, ahead := range []string{"", " ", ".", "a", ".a", "a ", "..", ". ", "1", `"x"`, `."x"`, "[", "1.5 ", "a.", `"x".`, "\r\n"} {
			refuses(t, ahead+s, api.ErrForm, len(ahead)+place)
		}
	}
	for s, place := range map[string]int{`"a" "`: 5, `"a""`: 4, `"""`: 3, `."a"."`: 6, `.a."b`: 5, `"a\"b" $`: 7} {
		refuses(t, s, api.ErrForm, place)
	}
}

// TestWrongNumbers is P8.1: all bytes of a number's are one number, or none; the place is within.
func TestWrongNumbers(t *testing.T) {
	for s, place := range map[string]int{
		"-": 1, "--": 1, "--1": 1, "-+1": 1, "-.": 1, "-.5": 1, "-e": 1, "-e5": 1, "-E": 1,
		"00": 1, "01": 1, "-01": 2, "007": 1, "00.5": 1, "01e5": 1, "0123": 1, "-00": 2,
		"1.": 2, "1..": 2, "1..2": 2, "1.e5": 2, "1.5.": 3, "1.5.2": 3, "0.": 2, "1.+": 2, "1.-2": 2,
		"1e": 2, "1E": 2, "1e+": 3, "1e-": 3, "1e+-2": 3, "1ee": 2, "1e5e5": 3, "1e5.": 3, "1e5.5": 3, "1e.5": 2, "1E5-1": 3, "0e": 2, "1e5+": 3,
		"1+": 1, "1+2": 1, "1-": 1, "1-2": 1, "1-1-1": 1, "10-1": 2, "1.5-2": 3, "0-0": 1, "0+": 1,
	} {
		for _, ahead := range []string{"", " ", ".", ". ", "[", "<=", ".a ", `"x"`, `."x"`, "a ", "3 ", "3,"} {
			for _, behind := range []string{"", " ", "a", "]", ` "x"`, `"x"`, "\n1", "$"} {
				refuses(t, ahead+s+behind, api.ErrForm, len(ahead)+place)
			}
		}
	}
	for s, place := range map[string]int{"1else": 2, "1Ea": 2, "1.a": 2, `1."a"`: 2, "-a": 1, "- 1": 1, "-_": 1, ".a-b": 3, ".a - 1": 4, "a-": 2, "1e 5": 2, "1. 5": 2, "[0:-]": 4, ".[01]": 3, "1.5.a": 3} {
		refuses(t, s, api.ErrForm, place)
	}
}

// TestLarge is P8.1: numbers that are too large, or too near nought, are told where they begin.
func TestLarge(t *testing.T) {
	for _, s := range []string{"1e1000", "1e1001", "-1e1000", "1E+1000", "9.9e1000", "0.1e1001", "1e-1001", "-1e-1001", "1e1000000", "1e-1000000", "1e0001000000", "0e1000000", "1e99999999999999999999", strings.Repeat("1", 101), "0." + strings.Repeat("1", 101), "1" + strings.Repeat("0", 1000), "0." + strings.Repeat("0", 1000) + "1"} {
		for _, ahead := range []string{"", "  ", ".", "a ", "[", "==", `"x"`, ".a ", "1e999 "} {
			for _, behind := range []string{"", " ", "a", "]", "$", " 01", "\"", " 1e1000"} {
				refuses(t, ahead+s+behind, api.ErrLarge, len(ahead))
			}
		}
	}
	for _, s := range []string{"1e1000e", "1e1000.", "01e1000", "1e1000+", "1e1000-1"} {
		if _, place, err := lex.Lex(" " + s); err != api.ErrForm || place < 2 {
			t.Errorf("%s: %d at %d", s, err, place)
		}
	}
}

// TestFirst is P8.1: of two faults in one text the first one is told.
func TestFirst(t *testing.T) {
	for _, x := range []struct {
		s     string
		err   api.Errno
		place int
	}{
		{"$ #", api.ErrForm, 0}, {"a $ #", api.ErrForm, 2}, {"= 01", api.ErrForm, 0}, {"01 =", api.ErrForm, 1}, {`$ "`, api.ErrForm, 0}, {`"\x" $`, api.ErrForm, 1}, {`"\x\y"`, api.ErrForm, 1}, {`."\x" 01`, api.ErrForm, 2}, {`01 "\x"`, api.ErrForm, 1},
		{"1e1000 $", api.ErrLarge, 0}, {"$ 1e1000", api.ErrForm, 0}, {"1e1000 01", api.ErrLarge, 0}, {"01 1e1000", api.ErrForm, 1}, {`"a 1e1000`, api.ErrForm, 9}, {`1e1000 "a`, api.ErrLarge, 0}, {`"a" 1e1000 "b`, api.ErrLarge, 4}, {"- 1e1000", api.ErrForm, 1}, {"é 1e1000", api.ErrForm, 0}, {"1e1000é", api.ErrLarge, 0}, {"a 1e1000 2e1000", api.ErrLarge, 2},
		{"\"\xff\n\"", api.ErrForm, 1}, {"\"a\n\xff\"", api.ErrForm, 2}, {"\xff\xfe", api.ErrForm, 0}, {".é.\xff", api.ErrForm, 1}, {"!$", api.ErrForm, 0}, {"<== $", api.ErrForm, 2},
	} {
		refuses(t, x.s, x.err, x.place)
	}
}
