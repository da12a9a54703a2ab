package lex_test

import (
	"strings"
	"testing"

	"loupe/api"
	"loupe/lex"
)

// TestText is P8.1: tokens, each as it is written, with a blank between each two.
func TestText(t *testing.T) {
	for _, x := range []struct {
		want string
		l    []api.Tok
	}{
		{"", nil},
		{"", []api.Tok{}},
		{"", []api.Tok{end()}},
		{".", []api.Tok{mark(".")}},
		{".", []api.Tok{mark("."), end()}},
		{". .", []api.Tok{mark("."), mark(".")}},
		{". a", []api.Tok{mark("."), word("a")}},
		{`. "a"`, []api.Tok{mark("."), str("a"), end()}},
		{"< = =", []api.Tok{mark("<"), mark("="), mark("=")}},
		{"< == <= >", []api.Tok{mark("<"), mark("=="), mark("<="), mark(">"), end()}},
		{"a B _1", []api.Tok{word("a"), word("B"), word("_1")}},
		{".a .b", []api.Tok{field("a"), field("b")}},
		{`"a" "" " "`, []api.Tok{str("a"), str(""), str(" ")}},
		{"1 -2 0 1.5", []api.Tok{whole("1"), number(true, "2", 0), number(false, "", 0), number(false, "15", -1), end()}},
		{`{ a : .b , "c d" : ."e f" }`, []api.Tok{mark("{"), word("a"), mark(":"), field("b"), mark(","), str("c d"), mark(":"), field("e f"), mark("}"), end()}},
	} {
		if s := lex.Text(x.l); s != x.want {
			t.Errorf("%+v: %q, not %q", x.l, s, x.want)
		}
	}
}

// TestTextOne is P8.1: how one token is written, wherever it stood.
func TestTextOne(t *testing.T) {
	for want, token := range map[string]api.Tok{
		"map_values": word("map_values"),
		".a":         field("a"), ".Zz_9": field("Zz_9"), "._": field("_"), ".null": field("null"), ".e1": field("e1"),
		`.""`: field(""), `."1"`: field("1"), `."1a"`: field("1a"), `."a b"`: field("a b"), `."a-b"`: field("a-b"), `."a "`: field("a "), `." a"`: field(" a"), `.".a"`: field(".a"), `."é"`: field("é"), `."aé"`: field("aé"), `."\"a\""`: field(`"a"`), `."\n/\u0000"`: field("\n/\x00"), "._0": field("_0"), `."a\n"`: field("a\n"), ".\"a\x7f\"": field("a\x7f"),
		`"a"`: str("a"), `""`: str(""), `"1"`: str("1"), `"\"\\/\b\f\n\r\t\u001f"`: str("\"\\/\b\f\n\r\t\x1f"), `"😀"`: str("😀"),
		"0": number(false, "", 0), "150": number(false, "15", 1), "-0.001": number(true, "1", -3), "1e20": number(false, "1", 20), "1e-21": number(false, "1", -21), "-12e987": number(true, "12", 987),
	} {
		for _, place := range []int{0, 7, -1} {
			if s := lex.Text([]api.Tok{at(place, token)}); s != want {
				t.Errorf("%+v: %q, not %q", token, s, want)
			}
		}
	}
	for _, m := range marks() {
		if s := lex.Text([]api.Tok{mark(m), mark(m), end()}); s != m+" "+m {
			t.Errorf("%s: %q", m, s)
		}
	}
}

// TestTextEnd is P8.1: the end is nothing, also where others stand beside it.
func TestTextEnd(t *testing.T) {
	for _, l := range [][]api.Tok{{word("a"), str(""), end()}, {end(), word("a"), str("")}, {word("a"), end(), str("")}, {end(), end(), word("a"), end(), end(), str(""), end(), end()}} {
		if s := lex.Text(l); s != `a ""` {
			t.Errorf("%+v: %q", l, s)
		}
	}
}

// TestTextLong is P8.1: of many tokens, and of long ones, none is lost.
func TestTextLong(t *testing.T) {
	const many = 100000
	var l []api.Tok
	for range many {
		l = append(l, field("a"), mark("|"))
	}
	if s := lex.Text(l); s != strings.TrimSuffix(strings.Repeat(".a | ", many), " ") {
		t.Error(len(s))
	}
	long := strings.Repeat("a", many)
	if s := lex.Text([]api.Tok{word(long), field(long), str(long)}); s != long+" ."+long+` "`+long+`"` {
		t.Error(len(s))
	}
}
