package lex_test

import (
	"slices"
	"strings"
	"testing"

	"loupe/api"
	"loupe/lex"
)

// tells holds that a text is of these tokens, at their places.
func tells(t *testing.T, s string, want ...api.Tok) {
	t.Helper()
	want = append(slices.Clone(want), at(len(s), end()))
	if l, place, err := lex.Lex(s); err != api.OK || place != 0 || !slices.Equal(l, want) {
		t.Errorf("%q: %+v, %d at %d, not %+v", s, l, err, place, want)
	}
}

// refuses holds that a text is of no tokens, why, and where.
func refuses(t *testing.T, s string, want api.Errno, place int) {
	t.Helper()
	if l, told, err := lex.Lex(s); err != want || told != place || len(l) > 0 {
		t.Errorf("%q: %+v, %d at %d, not %d at %d", s, l, err, told, want, place)
	}
}

// TestNone is P8.1: of no tokens there is the end alone, behind all blanks.
func TestNone(t *testing.T) {
	for _, s := range []string{"", " ", "\t", "\n", "\r", "  ", " \t\n\r \r\n\t", strings.Repeat(" ", 1000)} {
		tells(t, s)
	}
}

// TestMarks is P8.1: each mark, alone and among blanks.
func TestMarks(t *testing.T) {
	for _, m := range marks() {
		tells(t, m, mark(m))
		tells(t, " "+m+"\n\t", at(1, mark(m)))
		tells(t, m+"\r"+m, mark(m), at(len(m)+1, mark(m)))
	}
}

// TestMarksTwo is P8.1: each two marks, with a blank between and without; of those of which one begins another one the longest is told.
func TestMarksTwo(t *testing.T) {
	for _, a := range marks() {
		for _, b := range marks() {
			tells(t, a+" "+b, mark(a), at(len(a)+1, mark(b)))
			if (a == "<" || a == ">") && b == "==" {
				// The first byte of the second one goes to the first one, and the other one is no mark.
				refuses(t, a+b, api.ErrForm, 2)
				continue
			}
			tells(t, a+b, mark(a), at(len(a), mark(b)))
		}
	}
}

// TestMarksLongest is P8.1: marks of which one begins another one.
func TestMarksLongest(t *testing.T) {
	tells(t, "<=", mark("<="))
	tells(t, "<>=", mark("<"), at(1, mark(">=")))
	tells(t, "<=>", mark("<="), at(2, mark(">")))
	tells(t, "<<=", mark("<"), at(1, mark("<=")))
	tells(t, ">>", mark(">"), at(1, mark(">")))
	tells(t, ">=<=", mark(">="), at(2, mark("<=")))
	tells(t, "====", mark("=="), at(2, mark("==")))
	tells(t, "!===", mark("!="), at(2, mark("==")))
	tells(t, "==!=", mark("=="), at(2, mark("!=")))
	tells(t, "> ==", mark(">"), at(2, mark("==")))
	tells(t, ".a<.b", field("a"), at(2, mark("<")), at(3, field("b")))
	tells(t, "a<=-1", word("a"), at(1, mark("<=")), at(3, number(true, "1", 0)))
	tells(t, "[[]]", mark("["), at(1, mark("[")), at(2, mark("]")), at(3, mark("]")))
	tells(t, "{?:", mark("{"), at(1, mark("?")), at(2, mark(":")))
	refuses(t, "===", api.ErrForm, 2)
	refuses(t, "!==", api.ErrForm, 2)
	refuses(t, "< =", api.ErrForm, 2)
	refuses(t, "= =", api.ErrForm, 0)
	refuses(t, "! =", api.ErrForm, 0)
	refuses(t, "=<", api.ErrForm, 0)
	refuses(t, "!!=", api.ErrForm, 0)
}

// TestWords is P8.1: letters of both sizes, figures and `_`, the first one no figure.
func TestWords(t *testing.T) {
	const letters = "abcdefghijklmnopqrstuvwxyzABCDEFGHIJKLMNOPQRSTUVWXYZ"
	for _, w := range append(strings.Split(letters+"_", ""), letters, "_"+letters+"0123456789", "a0", "A9z", "_", "__", "_1", "a_b", "a1_", "Zz", "null", "map_values", "e", "E", "e5", "x", "u0041", strings.Repeat("aB_9", 1000)) {
		tells(t, w, word(w))
		tells(t, "\n"+w+" ", at(1, word(w)))
		tells(t, "("+w+")", mark("("), at(1, word(w)), at(1+len(w), mark(")")))
		tells(t, w+" "+w, word(w), at(len(w)+1, word(w)))
		tells(t, w+".", word(w), at(len(w), mark(".")))
		tells(t, w+"."+w, word(w), at(len(w), field(w)))
		tells(t, w+`"`+w+`"`+w, word(w), at(len(w), str(w)), at(2*len(w)+2, word(w)))
		tells(t, w+"-1", word(w), at(len(w), number(true, "1", 0)))
		tells(t, "3 "+w, whole("3"), at(2, word(w)))
	}
	tells(t, "1a2", whole("1"), at(1, word("a2")))
	tells(t, "1_2", whole("1"), at(1, word("_2")))
	tells(t, "0x1F", number(false, "", 0), at(1, word("x1F")))
}

// TestFields is P8.1: a dot, and right behind it a word, or a string that is written.
func TestFields(t *testing.T) {
	for _, w := range []string{"a", "Z", "_", "_1", "a0", "aB_9", "null", "e1", strings.Repeat("a", 1000)} {
		tells(t, "."+w, field(w))
		tells(t, " ."+w+" ", at(1, field(w)))
		tells(t, `."`+w+`"`, field(w))
		tells(t, "."+w+"."+w, field(w), at(len(w)+1, field(w)))
		tells(t, "."+w+" ."+w, field(w), at(len(w)+2, field(w)))
		tells(t, "."+w+"-1", field(w), at(len(w)+1, number(true, "1", 0)))
		tells(t, "."+w+" 1", field(w), at(len(w)+2, whole("1")))
		tells(t, "."+w+`"b"`, field(w), at(len(w)+1, str("b")))
		tells(t, "."+w+".", field(w), at(len(w)+1, mark(".")))
		tells(t, "."+w+"[", field(w), at(len(w)+1, mark("[")))
		tells(t, "."+w+"==", field(w), at(len(w)+1, mark("==")))
	}
	for s, want := range map[string]string{`""`: "", `"a b"`: "a b", `"1"`: "1", `"é"`: "é", `"\u0041"`: "A", `"\""`: `"`, `"\\"`: `\`, `".a"`: ".a", `"\n|"`: "\n|", `"\ud83d\ude00"`: "😀", "\"\ufffd\"": "\ufffd"} {
		tells(t, "."+s, field(want))
		tells(t, "\t."+s+"."+s, at(1, field(want)), at(2+len(s), field(want)))
		tells(t, "."+s+s, field(want), at(1+len(s), str(want)))
		tells(t, "."+s+"a", field(want), at(1+len(s), word("a")))
		tells(t, "."+s+"1", field(want), at(1+len(s), whole("1")))
	}
}

// TestDots is P8.1: dots that have no name right behind them are marks.
func TestDots(t *testing.T) {
	dot := mark(".")
	tells(t, ".", dot)
	for _, blank := range []string{" ", "\t", "\n", "\r", " \n"} {
		tells(t, "."+blank, dot)
		tells(t, "."+blank+"a", dot, at(1+len(blank), word("a")))
		tells(t, "."+blank+`"a"`, dot, at(1+len(blank), str("a")))
		tells(t, "."+blank+".", dot, at(1+len(blank), dot))
		tells(t, "."+blank+".a", dot, at(1+len(blank), field("a")))
	}
	tells(t, ".1", dot, at(1, whole("1")))
	tells(t, ".1.5", dot, at(1, number(false, "15", -1)))
	tells(t, ".0", dot, at(1, number(false, "", 0)))
	tells(t, ".-2", dot, at(1, number(true, "2", 0)))
	tells(t, ".1a", dot, at(1, whole("1")), at(2, word("a")))
	tells(t, "..", dot, at(1, dot))
	tells(t, "...", dot, at(1, dot), at(2, dot))
	tells(t, "..a", dot, at(1, field("a")))
	tells(t, `.."a"`, dot, at(1, field("a")))
	tells(t, "..1", dot, at(1, dot), at(2, whole("1")))
	tells(t, ".a..b", field("a"), at(2, dot), at(3, field("b")))
	tells(t, ".[0]", dot, at(1, mark("[")), at(2, number(false, "", 0)), at(3, mark("]")))
	tells(t, ".|.", dot, at(1, mark("|")), at(2, dot))
	tells(t, ".==.", dot, at(1, mark("==")), at(3, dot))
	tells(t, "a.", word("a"), at(1, dot))
	tells(t, `"a".`, str("a"), at(3, dot))
	tells(t, `"a".b`, str("a"), at(3, field("b")))
}

// TestStrings is P8.1: what stands within a string is its own, be it marks, blanks or escapes.
func TestStrings(t *testing.T) {
	for s, want := range map[string]string{
		`""`: "", `"a"`: "a", `" "`: " ", `"  a  "`: "  a  ", `"|"`: "|", `"==<=.a[0]{}"`: "==<=.a[0]{}", `"$#='"`: "$#='", `"1"`: "1", `"-"`: "-", `"01"`: "01", "\"\x7f\"": "\x7f",
		`"\""`: `"`, `"\\"`: `\`, `"\\\""`: `\"`, `"\/\b\f\n\r\t"`: "/\b\f\n\r\t", `"\u0000"`: "\x00", `"\u0022"`: `"`, `"\u00E9"`: "é", `"\ud834\uDD1E"`: "𝄞", `"a\"b"`: `a"b`, `"\" \""`: `" "`,
		`"é"`: "é", `"😀"`: "😀", "\"\u2028\ufffd\U0010ffff\"": "\u2028\ufffd\U0010ffff", "\"\u00a0\ufeff\"": "\u00a0\ufeff",
	} {
		long := len(s)
		tells(t, s, str(want))
		tells(t, "\r\n"+s+"\n", at(2, str(want)))
		tells(t, s+s, str(want), at(long, str(want)))
		tells(t, s+" "+s, str(want), at(long+1, str(want)))
		tells(t, s+":"+s+"a", str(want), at(long, mark(":")), at(long+1, str(want)), at(2*long+1, word("a")))
		tells(t, "a"+s+"1", word("a"), at(1, str(want)), at(1+long, whole("1")))
		tells(t, "1"+s, whole("1"), at(1, str(want)))
		tells(t, "["+s+"]", mark("["), at(1, str(want)), at(1+long, mark("]")))
	}
}

// TestNumbers is P8.1: numbers with signs, points and powers, and what may stand right behind them.
func TestNumbers(t *testing.T) {
	for s, want := range map[string]api.Tok{
		"0": number(false, "", 0), "-0": number(false, "", 0), "0.0": number(false, "", 0), "-0.00e-7": number(false, "", 0), "7": whole("7"), "-7": number(true, "7", 0), "10": number(false, "1", 1), "1234567890": number(false, "123456789", 1),
		"1.50": number(false, "15", -1), "-0.5": number(true, "5", -1), "1.0": whole("1"), "0.001": number(false, "1", -3), "1e2": number(false, "1", 2), "1E2": number(false, "1", 2), "1e+2": number(false, "1", 2), "1E-2": number(false, "1", -2), "-1.5e+3": number(true, "15", 2), "1e007": number(false, "1", 7),
		"1e999": number(false, "1", 999), "-1e-1000": number(true, "1", -1000), strings.Repeat("9", 100): whole(strings.Repeat("9", 100)), "0." + strings.Repeat("1", 100): number(false, strings.Repeat("1", 100), -100),
	} {
		long := len(s)
		tells(t, s, want)
		tells(t, "  "+s+"\t", at(2, want))
		tells(t, s+" "+s, want, at(long+1, want))
		tells(t, s+" -1", want, at(long+1, number(true, "1", 0)))
		tells(t, s+" .", want, at(long+1, mark(".")))
		tells(t, s+" .a", want, at(long+1, field("a")))
		tells(t, s+" e", want, at(long+1, word("e")))
		tells(t, s+"a", want, at(long, word("a")))
		tells(t, s+"_", want, at(long, word("_")))
		tells(t, "["+s+":]", mark("["), at(1, want), at(long+1, mark(":")), at(long+2, mark("]")))
		tells(t, "=="+s+`"",`, mark("=="), at(2, want), at(long+2, str("")), at(long+4, mark(",")))
	}
}

// TestBlanks is P8.1: each of the four blanks, ahead, between and behind, counts for nothing but places.
func TestBlanks(t *testing.T) {
	texts := []string{".a", ".", `."b c"`, "|", "null", `"x y"`, "-1.5", "<", "<="}
	want := []api.Tok{field("a"), mark("."), field("b c"), mark("|"), word("null"), str("x y"), number(true, "15", -1), mark("<"), mark("<=")}
	for _, blank := range []string{" ", "\t", "\n", "\r", "\r\n", "   ", " \t\n\r"} {
		var l []api.Tok
		s := blank
		for i, token := range want {
			l = append(l, at(len(s), token))
			s += texts[i] + blank
		}
		tells(t, s, l...)
		tells(t, s+s, append(l, shifted(l, len(s))...)...)
		tells(t, strings.TrimSuffix(s, blank), l...)
		tells(t, strings.TrimPrefix(s, blank), shifted(l, -len(blank))...)
	}
}

// shifted are tokens so many bytes later.
func shifted(l []api.Tok, by int) []api.Tok {
	l = slices.Clone(l)
	for i := range l {
		l[i].At += by
	}
	return l
}

// TestExample is the chapter's.
func TestExample(t *testing.T) {
	tells(t, ".a|.[0]", field("a"), at(2, mark("|")), at(3, mark(".")), at(4, mark("[")), at(5, number(false, "", 0)), at(6, mark("]")))
	tells(t, "map(select(.a > 1) | .b)", word("map"), at(3, mark("(")), at(4, word("select")), at(10, mark("(")), at(11, field("a")), at(14, mark(">")), at(16, whole("1")), at(17, mark(")")), at(19, mark("|")), at(21, field("b")), at(23, mark(")")))
	tells(t, "{b: str, a: num|null}", mark("{"), at(1, word("b")), at(2, mark(":")), at(4, word("str")), at(7, mark(",")), at(9, word("a")), at(10, mark(":")), at(12, word("num")), at(15, mark("|")), at(16, word("null")), at(20, mark("}")))
}
