package text_test

import (
	"fmt"
	"slices"
	"strconv"
	"strings"
	"testing"

	"loupe/api"
	"loupe/num"
	"loupe/text"
	"loupe/val"
)

var (
	null = api.Val{{Kind: api.Null}}
	no   = api.Val{{Kind: api.False}}
	yes  = api.Val{{Kind: api.True}}
)

func str(s string) api.Val { return api.Val{{Kind: api.Str, S: s}} }

func number(neg bool, figures string, e int) api.Val {
	return api.Val{{Kind: api.Num, S: figures, Neg: neg, E: e}}
}

func list(l ...api.Val) api.Val { return val.List(l) }

// object is that of names and values by turns.
func object(t *testing.T, l ...any) api.Val {
	t.Helper()
	var names []string
	var parts []api.Val
	for i := 0; i < len(l); i += 2 {
		names, parts = append(names, l[i].(string)), append(parts, l[i+1].(api.Val))
	}
	v, err := val.Object(names, parts)
	if err != api.OK {
		t.Fatal("no object:", names)
	}
	return v
}

// short is a value for a message.
func short(v api.Val) string {
	s := fmt.Sprintf("%+v", v)
	return s[:min(len(s), 400)]
}

// tells holds that all of s is a text of that value.
func tells(t *testing.T, s string, want api.Val) {
	t.Helper()
	v, at, err := text.Parse(s)
	if err != api.OK || at != 0 || !slices.Equal(v, want) || !val.Right(v) {
		t.Errorf("%.60q: %s %d %d, not %s", s, short(v), at, err, short(want))
	}
}

// refuses holds that s is a text of none, why, and where.
func refuses(t *testing.T, s string, why api.Errno, where int) {
	t.Helper()
	if v, at, err := text.Parse(s); v != nil || at != where || err != why {
		t.Errorf("%.60q: %s %d %d, not %d %d", s, short(v), at, err, where, why)
	}
}

// TestParse is P4.1: the value of each sort of text.
func TestParse(t *testing.T) {
	one, two := number(false, "1", 0), number(false, "2", 0)
	for s, want := range map[string]api.Val{
		"null": null, "false": no, "true": yes, "0": number(false, "", 0), "-0.0": number(false, "", 0), "1": one, "-12.30": number(true, "123", -1), "1.50e2": number(false, "15", 1),
		`""`: str(""), `"a"`: str("a"), `" "`: str(" "), `"\n"`: str("\n"), `"\u00e9\ud83d\ude00é😀"`: str("é😀é😀"), `"[1,{}]"`: str("[1,{}]"), `"null"`: str("null"), `"\""`: str(`"`), `"a,b:c"`: str("a,b:c"), "\"\ufeff\ufffd\"": str("\ufeff\ufffd"),
		"[]": list(), "[1]": list(one), "[1,2]": list(one, two), "[[]]": list(list()), "[[],[]]": list(list(), list()), "[[1],2]": list(list(one), two), "[1,[2]]": list(one, list(two)), "[1,1]": list(one, one), "[{}]": list(api.Val{{Kind: api.Obj}}),
		"[null,false,true,0,\"\",[],{}]": list(null, no, yes, number(false, "", 0), str(""), list(), object(t)),
		"{}":                             object(t), `{"a":1}`: object(t, "a", one), `{"":1}`: object(t, "", one), `{"a":{}}`: object(t, "a", object(t)), `{"a":[]}`: object(t, "a", list()), `{"a":null}`: object(t, "a", null), `{"\n":1}`: object(t, "\n", one), `{"é":"é"}`: object(t, "é", str("é")), `{"a":"b"}`: object(t, "a", str("b")),
		`{"a":1,"b":2}`: object(t, "a", one, "b", two), `{"b":2,"a":1}`: object(t, "a", one, "b", two), `{"b":1,"a":2,"c":[]}`: object(t, "a", two, "b", one, "c", list()), `{"aa":1,"a":2}`: object(t, "a", two, "aa", one), `{"é":1,"z":2}`: object(t, "z", two, "é", one), `{"a":1,"A":2,"":null}`: object(t, "", null, "A", two, "a", one), `{"9":1,"10":2}`: object(t, "10", two, "9", one),
		`{"a":{"b":[1,{"c":true}]},"d":[[2]]}`: object(t, "a", object(t, "b", list(one, object(t, "c", yes))), "d", list(list(two))),
		`[{"b":1},{"a":2}]`:                    list(object(t, "b", one), object(t, "a", two)), `{"b":{"b":1},"a":{"b":2}}`: object(t, "a", object(t, "b", two), "b", object(t, "b", one)),
	} {
		tells(t, s, want)
	}
}

// TestParseTwice is P4.1: of fields of one name the last one counts, whatever else stands between, and however the name is written.
func TestParseTwice(t *testing.T) {
	one, two := number(false, "1", 0), number(false, "2", 0)
	for s, want := range map[string]api.Val{
		`{"a":1,"a":[]}`: object(t, "a", list()), `{"a":[],"a":1}`: object(t, "a", one), `{"a":1,"a":1}`: object(t, "a", one), `{"a":1,"a":null}`: object(t, "a", null), `{"":1,"":2}`: object(t, "", two),
		`{"a":1,"a":2,"a":null}`: object(t, "a", null), `{"a":1,"b":1,"a":2}`: object(t, "a", two, "b", one), `{"b":1,"a":1,"b":2}`: object(t, "a", one, "b", two), `{"b":1,"a":1,"b":2,"a":[]}`: object(t, "a", list(), "b", two),
		`{"a":1,"\u0061":2}`: object(t, "a", two), `{"\u0061":1,"a":2}`: object(t, "a", two), `{"é":1,"\u00E9":2}`: object(t, "é", two), `{"\ud83d\ude00":1,"😀":2}`: object(t, "😀", two), `{"\/":1,"/":2}`: object(t, "/", two), `{"\n":1,"\u000a":2}`: object(t, "\n", two),
		`{"a":{"x":1},"a":{"y":2}}`: object(t, "a", object(t, "y", two)), `{"a":{"a":1,"a":2},"b":{"a":1}}`: object(t, "a", object(t, "a", two), "b", object(t, "a", one)), `[{"a":1},{"a":2}]`: list(object(t, "a", one), object(t, "a", two)),
		`{"a":1,"A":2," a":null}`: object(t, " a", null, "A", two, "a", one), `{"a":1,"a\u0000":2}`: object(t, "a", one, "a\x00", two),
	} {
		tells(t, s, want)
	}
	// What does not count is read none the less.
	refuses(t, `{"a":nul,"a":1}`, api.ErrForm, 5)
	refuses(t, `{"a":1e1000,"a":1}`, api.ErrLarge, 5)
	deep := strings.Repeat("[", 128)
	refuses(t, `{"a":`+deep+strings.Repeat("]", 128)+`,"a":1}`, api.ErrDepth, 5+127)
}

// tokens are a text's pieces: between any two of them blanks may stand.
func tokens() []string {
	return []string{"{", `"b"`, ":", "[", "1", ",", "-2.5e3", ",", "null", ",", "true", ",", "false", ",", `"x y"`, ",", "[", "]", ",", "{", "}", "]", ",", `"a"`, ":", "{", `"c"`, ":", "0", "}", "}"}
}

// with is the text of these pieces, with s ahead of one of them (or at the end), and where s begins.
func with(l []string, place int, s string) (string, int) {
	head := strings.Join(l[:place], "")
	return head + s + strings.Join(l[place:], ""), len(head)
}

// TestParseBlanks is P4.1: the four blanks stand around each mark and value, one or more.
func TestParseBlanks(t *testing.T) {
	l := tokens()
	plain, _, err := text.Parse(strings.Join(l, ""))
	if err != api.OK || len(plain) == 0 {
		t.Fatal(err)
	}
	for _, blank := range []string{" ", "\t", "\n", "\r", "  ", "\r\n", " \t\n\r", "\r\n\t \r\n\t "} {
		tells(t, blank+strings.Join(l, blank)+blank, plain)
		for place := range len(l) + 1 {
			s, _ := with(l, place, blank)
			tells(t, s, plain)
		}
		for _, alone := range []string{"null", "true", "false", "0", "-1.5", `""`, "[]", "{}"} {
			v, _, _ := text.Parse(alone)
			tells(t, blank+alone, v)
			tells(t, alone+blank, v)
			tells(t, blank+alone+blank, v)
		}
		tells(t, "["+blank+"]", list())
		tells(t, "{"+blank+"}", object(t))
		tells(t, blank+"["+blank+"["+blank+"]"+blank+"]"+blank, list(list()))
	}
	tells(t, strings.Repeat(" \n", 1000)+"[]"+strings.Repeat("\t\r", 1000), list())
}

// TestParseNoBlanks is P4.1: other bytes, which look like blanks, stand nowhere.
func TestParseNoBlanks(t *testing.T) {
	l := tokens()
	for _, s := range []string{"\v", "\f", "\b", "\a", "\x00", "\x0e", "\x1c", "\x1d", "\x1e", "\x1f", "\x7f", "\x85", "\xa0", "\u0085", "\u00a0", "\u1680", "\u2000", "\u200b", "\u2028", "\u2029", "\u3000", "\ufeff", `\n`, `\t`, "_", "#", "//", "/**/"} {
		for place := range len(l) + 1 {
			wrong, at := with(l, place, s)
			refuses(t, wrong, api.ErrForm, at)
			wrong, at = with(l, place, " "+s+" ")
			refuses(t, wrong, api.ErrForm, at+1)
		}
		refuses(t, s, api.ErrForm, 0)
		refuses(t, "["+s+"]", api.ErrForm, 1)
		refuses(t, "{ "+s+"}", api.ErrForm, 2)
		refuses(t, "[] "+s, api.ErrForm, 3)
	}
}

// contexts are where a value may stand.
func contexts() [][2]string {
	return [][2]string{{"", ""}, {" ", " "}, {"[", "]"}, {"[ ", " ]"}, {"[1,", ",2]"}, {"[[],\n", "\n,[]]"}, {`{"a":`, "}"}, {`{"a" : `, ` , "b":1}`}, {`{"a":1,"b":`, "}"}, {`{"é":[{"b":`, "}]}"}}
}

// TestParseSpells is P4.1: words, numbers and strings stand wherever a value may, at the end of the text too.
func TestParseSpells(t *testing.T) {
	spells := map[string]api.Val{
		"null": null, "false": no, "true": yes,
		"0": number(false, "", 0), "-0": number(false, "", 0), "7": number(false, "7", 0), "-10": number(true, "1", 1), "0.5": number(false, "5", -1), "1E+2": number(false, "1", 2), "1e-002": number(false, "1", -2), "1e999": number(false, "1", 999), "-1e-1000": number(true, "1", -1000), strings.Repeat("1", 100): number(false, strings.Repeat("1", 100), 0), "0e999999": number(false, "", 0),
		`""`: str(""), `"a"`: str("a"), `"]"`: str("]"), `"}"`: str("}"), `","`: str(","), `"\\"`: str(`\`), `"\""`: str(`"`), `"\u0000"`: str("\x00"), "\"\x7f\"": str("\x7f"), `"\ud834\udd1e"`: str("𝄞"),
	}
	for s, want := range spells {
		for _, c := range contexts() {
			inside, _, err := text.Parse(c[0] + s + c[1])
			instead, _, _ := text.Parse(c[0] + `"!"` + c[1])
			for i, n := range instead {
				if n.S == "!" {
					instead[i] = want[0]
					instead[i].Name = n.Name
				}
			}
			if err != api.OK || !slices.Equal(inside, instead) {
				t.Errorf("%q: %s %d, not %s", c[0]+s+c[1], short(inside), err, short(instead))
			}
		}
	}
}

// TestParseWrongWords is P4.1: the first byte of a word that is none, or what stands right behind one.
func TestParseWrongWords(t *testing.T) {
	for _, s := range []string{"n", "nu", "nul", "nulL", "Null", "NULL", "nil", "none", "undefined", "nan", "NaN", "t", "tr", "tru", "True", "trUe", "tr ue", "f", "fals", "fa\nlse", "yes", "Infinity", "inf", "e5", "E", "x", "a\"b\"", "_", "é", "'a'", "tru\x00", "tru\xff", "nul\n", "fals]", "\xef\xbb\xbfnull", "\xff"} {
		for _, c := range contexts() {
			refuses(t, c[0]+s+c[1], api.ErrForm, len(c[0]))
			refuses(t, c[0]+s, api.ErrForm, len(c[0]))
		}
	}
	for s, at := range map[string]int{
		"nullx": 4, "nulll": 4, "truex": 4, "true1": 4, "true\"\"": 4, "truetrue": 4, "true[": 4, "true_": 4, "trueé": 4, "null.": 4, "null\x00": 4, "falsee": 5, "false-1": 5, "false true": 6, "null,": 4, "null:": 4, "null]": 4,
		"[nullx]": 5, "[true1,2]": 5, "[falsee]": 6, `{"a":nulll}`: 9, `{"a":true"b":1}`: 9, "[true false]": 6, "[null:1]": 5, `{"a":true:1}`: 9, "{null:1}": 1, "{true}": 1, "{a:1}": 1, `{"a":1,b:2}`: 7, "{nul": 1,
	} {
		refuses(t, s, api.ErrForm, at)
	}
}

// TestParseWrongNumbers is P4.1: a number is told by all its bytes, and it is wrong where layer 1 says so.
func TestParseWrongNumbers(t *testing.T) {
	for s, at := range map[string]int{
		"-": 1, "--1": 1, "-e": 1, "-.5": 1, "-+1": 1, "-E5": 1, "01": 1, "00": 1, "-01": 2, "0-": 1, "0+1": 1, "1-1": 1, "1+1": 1, "1-": 1, "12-3": 2, "1.": 2, "1..": 2, "1.e5": 2, "1.-": 2, "-0.": 3, "1.5.5": 3, "1e": 2, "1E": 2, "1ee": 2, "1e.": 2, "1e+": 3, "1e-": 3, "1e+-1": 3, "1e5.0": 3, "1e5e5": 3, "1e5-": 3, "0e": 2, "00e1000000": 1, "1e1000000.": 9, "1e1000-": 6, "1E99999999+": 10,
		strings.Repeat("1", 101) + ".": 102, strings.Repeat("1", 101) + "-": 101,
	} {
		if _, place, err := num.Read(s); err != api.ErrForm || place != at {
			t.Errorf("%q: layer 1 says %d %d", s, place, err)
		}
		for _, c := range contexts() {
			refuses(t, c[0]+s+c[1], api.ErrForm, len(c[0])+at)
			refuses(t, c[0]+s, api.ErrForm, len(c[0])+at)
		}
	}
	// These bytes begin no number, or are none of it.
	for s, at := range map[string]int{"+1": 0, ".5": 0, "+": 0, ".": 0, "e": 0, "E1": 0, "[+1]": 1, "[.5]": 1, "{\"a\":+1}": 5, "1_0": 1, "1,": 1, "1,5": 1, "1 2": 2, "1\n2": 2, "1\x002": 1, "1x": 1, "0x10": 1, "1a": 1, "1f": 1, "-x": 1, "- 1": 1, "-Infinity": 1, "1ex": 2, "1.x": 2, "1e +5": 2, "1. 5": 2, "1\"\"": 1, "1[]": 1, "1{": 1, "1]": 1, "[1[": 2, "[1\"a\"]": 2, "[1true]": 2, "[1 true]": 3, "[1.5null]": 4, "[1else]": 3, "٣": 0, "1٣": 1, "-\xff": 1, "1/": 1, "1:": 1, "-:": 1} {
		refuses(t, s, api.ErrForm, at)
	}
}

// TestParseLarge is P4.1: a number that is too large, where it begins.
func TestParseLarge(t *testing.T) {
	for _, s := range []string{"1e1000", "-1e1000", "1e1001", "10e999", "1e-1001", "1" + strings.Repeat("0", 1000), strings.Repeat("1", 101), "0." + strings.Repeat("1", 101), "0e1000000", "1e99999999999999999999", "-1E-18446744073709551616"} {
		for _, c := range contexts() {
			refuses(t, c[0]+s+c[1], api.ErrLarge, len(c[0]))
			// What comes behind does not count any more.
			refuses(t, c[0]+s, api.ErrLarge, len(c[0]))
			refuses(t, c[0]+s+"x", api.ErrLarge, len(c[0]))
			refuses(t, c[0]+s+c[1]+"]", api.ErrLarge, len(c[0]))
		}
	}
}

// TestParseLargeEnd is P4.1: which bytes a number is made of: all others end it, so that it is too large, whatever they are.
func TestParseLargeEnd(t *testing.T) {
	for c := range 256 {
		s := "[1e1000" + string([]byte{byte(c)})
		if strings.Contains("+-.eE", s[7:]) {
			refuses(t, s, api.ErrForm, 7)
		} else {
			refuses(t, s, api.ErrLarge, 1)
		}
	}
}

// TestParseWrongStrings is P4.1: a string is wrong where layer 3 says so, wherever it stands, names too.
func TestParseWrongStrings(t *testing.T) {
	whole := map[string]int{`"\x"`: 1, `"a\x"`: 2, `"é\u12"`: 3, `"\ud800"`: 1, `"\udc00\ud800"`: 1, "\"\n\"": 1, "\"ab\x00\"": 3, "\"\xff\"": 1, "\"a\xed\xa0\x80\"": 2, `"\'"`: 1, "\"\t\"": 1, "\"\xc3\"": 1, `"\u00g0"`: 1, `"\`: 1, `"a\u00`: 2}
	ends := []string{`"`, `"a`, `"\"`, `"é`, `"\\`, `"]`, `"a]}`, `"\u0041`, `"[1,2`}
	around := append(contexts(), [2]string{"{", ":1}"}, [2]string{"{ ", " :1}"}, [2]string{`{"a":1,`, ":2}"}, [2]string{`[{"a":[],` + "\n", ":2}]"})
	for _, c := range around {
		for s, at := range whole {
			refuses(t, c[0]+s, api.ErrForm, len(c[0])+at)
			if strings.HasSuffix(s, `"`) {
				refuses(t, c[0]+s+c[1], api.ErrForm, len(c[0])+at)
			}
		}
		for _, s := range ends {
			refuses(t, c[0]+s, api.ErrForm, len(c[0])+len(s))
		}
	}
	for s, at := range map[string]int{`'a'`: 0, `"a"b`: 3, `"a""b"`: 3, `"a"1`: 3, `"a"\`: 3, `["a" "b"]`: 5, `"a" "b"`: 4, `["a"b]`: 4, `{"a""b":1}`: 4, `{"a"1}`: 4, `{'a':1}`: 1, `\"a"`: 0} {
		refuses(t, s, api.ErrForm, at)
	}
}

// TestParseWrongMarks is P4.1: marks that do not fit, names that are no strings, commas too many or too few, ends that are too soon, and what stands behind the value.
func TestParseWrongMarks(t *testing.T) {
	for s, at := range map[string]int{
		"": 0, " ": 1, "\n": 1, " \t\n\r": 4,
		"]": 0, "}": 0, ",": 0, ":": 0, ")": 0, "(": 0, "<": 0, " ]": 1,
		"[": 1, "[ ": 2, "[1": 2, "[1 ": 3, "[1,": 3, "[1, ": 4, "[[": 2, "[[]": 3, "[[],": 4, "[true": 5, "[{": 2, "[{}": 3,
		"[,]": 1, "[,1]": 1, "[1,]": 3, "[1, ]": 4, "[1,,2]": 3, "[1 2]": 3, "[[][]]": 3, "[{}{}]": 3, "[1}": 2, "[}": 1, "[:]": 1, "[1:2]": 2, "[1;2]": 2, "[1,}": 3, "[1,:": 3, `["a":1]`: 4, "[)": 1,
		"{": 1, "{ ": 2, `{"a"`: 4, `{"a" `: 5, `{"a":`: 5, `{"a": `: 6, `{"a":1`: 6, `{"a":1 `: 7, `{"a":1,`: 7, `{"a":1, `: 8, `{"a":1,"b"`: 10, `{"a":1,"b":`: 11, `{"a":{`: 6, `{"a":{}`: 7, `{"a":[]`: 7,
		"{,}": 1, "{]": 1, "{:}": 1, "{{}}": 1, "{[]}": 1, "{[]:1}": 1, "{{}:1}": 1, "{1:2}": 1, "{-1:2}": 1, "{null:2}": 1, `{"a"}`: 4, `{"a",}`: 4, `{"a","b":1}`: 4, `{"a":}`: 5, `{"a":,}`: 5, `{"a":]`: 5, `{"a"::1}`: 5, `{"a" 1}`: 5, `{"a"=1}`: 4, `{"a"[]}`: 4, `{"a"]`: 4, `{"a":1,}`: 7, `{"a":1, }`: 8, `{"a":1,,"b":2}`: 7, `{"a":1 "b":2}`: 7, `{"a":1"b":2}`: 6, `{"a":1]`: 6, `{"a":1:2}`: 6, `{"a":1;"b":2}`: 6, `{"a":1,1:2}`: 7, `{"a":1,[]:2}`: 7, `{"a":1,]`: 7, `{"a":1,:`: 7, `{"a":{]}`: 6, `{"a":[}]`: 6, `{"a":[1}`: 7, `{"a" "b"}`: 5,
		"[]]": 2, "[][]": 2, "[] []": 3, "{}}": 2, "{}{}": 2, "{},": 2, "[],[]": 2, "1,2": 1, "null null": 5, "[]x": 2, "{} \x00": 3, "1 \n,": 3, `""""`: 2, "[]//": 2, "[] ]": 3, "{}:1": 2, `"a":1`: 3,
	} {
		refuses(t, s, api.ErrForm, at)
	}
}

// TestParseDepth is P4.1: as many lists and objects one in the other as may be, and one more; its mark is told, whatever comes behind.
func TestParseDepth(t *testing.T) {
	for _, shape := range [][2]string{{"[", "]"}, {`{"a":`, "}"}, {`[1,{"b":2,"a":`, "},3]"}, {" [ ", " ] "}} {
		in := max(1, strings.Count(shape[0], "[")+strings.Count(shape[0], "{"))
		many := api.MaxDepth/in - 1
		head, tail := strings.Repeat(shape[0], many), strings.Repeat(shape[1], many)
		// in lists or objects are left.
		for _, inner := range [][2]string{{"[", "]"}, {"{", "}"}} {
			last := strings.Repeat("[", in-1) + inner[0]
			ends := inner[1] + strings.Repeat("]", in-1)
			v, at, err := text.Parse(head + last + ends + tail)
			if err != api.OK || at != 0 || val.Depth(v) != api.MaxDepth || !val.Right(v) {
				t.Errorf("%q: %d %d, depth %d", shape[0], at, err, val.Depth(v))
			}
			deeper := head + strings.Repeat("[", in) + inner[0]
			at = len(deeper) - 1
			refuses(t, deeper+inner[1]+strings.Repeat("]", in)+tail, api.ErrDepth, at)
			for _, more := range []string{"", "x", "]", "}", ":", strings.Repeat("[", 1000), strings.Repeat(`{"a":`, 1000), `"`, "1e1000"} {
				refuses(t, deeper+more, api.ErrDepth, at)
			}
		}
	}
	// What stands beside does not go deeper; what stands in the deepest is no list.
	head, tail := strings.Repeat("[", 127), strings.Repeat("]", 127)
	for _, inner := range []string{"[],[],[]", "{},[],{}", `[1,"[[[",null],{"a":1,"b":"{{"}`, "[[]", "[}"} {
		v, at, err := text.Parse(head + inner + tail)
		switch inner {
		case "[[]":
			refuses(t, head+inner+tail, api.ErrDepth, 128)
		case "[}":
			refuses(t, head+inner+tail, api.ErrForm, 128)
		default:
			if err != api.OK || at != 0 || val.Depth(v) != api.MaxDepth {
				t.Errorf("%q: %d %d", inner, at, err)
			}
		}
	}
	refuses(t, head+"[],[[]]"+tail, api.ErrDepth, 127+4)
	refuses(t, head+`{"a":1,"b":{}}`+tail, api.ErrDepth, 127+11)
	tells(t, "["+strings.Repeat("[],", 1000)+"[]]", val.List(slices.Repeat([]api.Val{list()}, 1001)))
}

// TestParseFirst is P4.1: of several errors the first one counts, from left to right; at one place what can't go on.
func TestParseFirst(t *testing.T) {
	deep := strings.Repeat("[", 128)
	for _, c := range []struct {
		s   string
		why api.Errno
		at  int
	}{
		{"[x,1e1000]", api.ErrForm, 1}, {"[1e1000,x]", api.ErrLarge, 1}, {"[1e1000,1e1000]", api.ErrLarge, 1}, {"[1,1e1000", api.ErrLarge, 3}, {"[1e1000x]", api.ErrLarge, 1}, {"[1 1e1000]", api.ErrForm, 3}, {"[1e1000 1]", api.ErrLarge, 1}, {"1e1000 1", api.ErrLarge, 0}, {"{1e1000:1}", api.ErrForm, 1}, {`{"\x":1e1000}`, api.ErrForm, 2}, {`{"a":1e1000,"\x":1}`, api.ErrLarge, 5}, {"[1e1000.]", api.ErrForm, 7}, {"[nul,tru]", api.ErrForm, 1},
		{deep + "[1e1000", api.ErrDepth, 128}, {deep + "1e1000,[", api.ErrLarge, 128}, {deep + "x[", api.ErrForm, 128}, {deep + "1,[", api.ErrDepth, 130}, {deep + ",[", api.ErrForm, 128}, {"x" + deep + "[", api.ErrForm, 0}, {"[1e1000," + deep + "[", api.ErrLarge, 1}, {"[01," + deep + "[", api.ErrForm, 2},
		// A mark that is too deep, but that could not stand there at all.
		{deep + "1[", api.ErrForm, 129}, {deep + "1{", api.ErrForm, 129}, {deep + `""{`, api.ErrForm, 130}, {deep[1:] + "{[", api.ErrForm, 128}, {deep[1:] + `{"a"[`, api.ErrForm, 131}, {deep[1:] + `{"a":1[`, api.ErrForm, 133}, {deep[1:] + `{"a":[`, api.ErrDepth, 132}, {deep[1:] + `{"a":1,{`, api.ErrForm, 134},
	} {
		refuses(t, c.s, c.why, c.at)
	}
}

// TestParseSoon is P4.1: a text that ends too soon ends at its end, or where what has begun began.
func TestParseSoon(t *testing.T) {
	l := tokens()
	s := strings.Join(l, " ")
	at := 0
	for i, token := range l {
		for cut := range len(token) {
			if i == 0 && cut == 0 {
				continue
			}
			want := at + cut
			if c := token[0]; c == 't' || c == 'f' || c == 'n' {
				want = at
			}
			refuses(t, s[:at+cut], api.ErrForm, want)
		}
		if i < len(l)-1 {
			refuses(t, s[:at+len(token)], api.ErrForm, at+len(token))
		}
		at += len(token) + 1
	}
}

// TestParseMany is P4.1 for many parts: none is lost.
func TestParseMany(t *testing.T) {
	const many = 100000
	var l, m strings.Builder
	for i := range many {
		// No number of these is told twice, and they do not come in order.
		n := strconv.Itoa((i*7919 + 1) % many)
		l.WriteString("," + n)
		m.WriteString(`,"` + n + `":` + n)
	}
	v, _, err := text.Parse("[" + l.String()[1:] + "]")
	if err != api.OK || len(v) != 1+many || v[0].Many != many {
		t.Fatal(err, len(v))
	}
	for i, part := range v[1:] {
		if num.Print(part) != strconv.Itoa((i*7919+1)%many) {
			t.Fatal(i, part)
		}
	}
	v, _, err = text.Parse("{" + m.String()[1:] + `,"7":[],"7":"b"}`)
	if err != api.OK || len(v) != 1+many || !val.Right(v) {
		t.Fatal(err, len(v))
	}
	for _, part := range v[1:] {
		if part.Name == "7" {
			if part.S != "b" || part.Kind != api.Str {
				t.Error(part)
			}
			continue
		}
		name := part.Name
		part.Name = ""
		if num.Print(part) != name {
			t.Fatal(name, part)
		}
	}
	refuses(t, "["+strings.Repeat("[],", many), api.ErrForm, 1+3*many)
	refuses(t, strings.Repeat("[", many), api.ErrDepth, 128)
	refuses(t, strings.Repeat(`{"":`, many), api.ErrDepth, 4*128)
	refuses(t, strings.Repeat(" ", many), api.ErrForm, many)
}
