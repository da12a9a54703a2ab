package text_test

import (
	"slices"
	"strings"
	"testing"

	"loupe/api"
	"loupe/text"
)

// TestPrint is P4.1: both texts of each sort of value.
func TestPrint(t *testing.T) {
	one, minus := number(false, "1", 0), number(true, "15", -1)
	for _, c := range []struct {
		v                 api.Val
		compact, indented string
	}{
		{null, "null", "null"}, {no, "false", "false"}, {yes, "true", "true"},
		{number(false, "", 0), "0", "0"}, {one, "1", "1"}, {minus, "-1.5", "-1.5"}, {number(false, "15", 1), "150", "150"}, {number(false, "1", 19), "10000000000000000000", "10000000000000000000"}, {number(false, "1", 20), "1e20", "1e20"}, {number(false, "1", 999), "1e999", "1e999"}, {number(true, "1", -1000), "-1e-1000", "-1e-1000"}, {number(false, "5", -20), "0.00000000000000000005", "0.00000000000000000005"}, {number(false, "5", -21), "5e-21", "5e-21"},
		{str(""), `""`, `""`}, {str("a b"), `"a b"`, `"a b"`}, {str("\"\\/\b\f\n\r\t\x00\x1f\x7fé😀"), `"\"\\/\b\f\n\r\t\u0000\u001f` + "\x7fé😀\"", `"\"\\/\b\f\n\r\t\u0000\u001f` + "\x7fé😀\""}, {str("[1, 2]"), `"[1, 2]"`, `"[1, 2]"`},

		{list(), "[]", "[]"}, {object(t), "{}", "{}"},
		{list(one), "[1]", "[\n  1\n]"}, {list(one, null, str(",")), `[1,null,","]`, "[\n  1,\n  null,\n  \",\"\n]"},
		{list(list()), "[[]]", "[\n  []\n]"}, {list(list(), list(one), object(t), list()), "[[],[1],{},[]]", "[\n  [],\n  [\n    1\n  ],\n  {},\n  []\n]"}, {list(list(list())), "[[[]]]", "[\n  [\n    []\n  ]\n]"}, {list(list(list(one), minus), minus), "[[[1],-1.5],-1.5]", "[\n  [\n    [\n      1\n    ],\n    -1.5\n  ],\n  -1.5\n]"},
		{object(t, "a", one), `{"a":1}`, "{\n  \"a\": 1\n}"}, {object(t, "", str("")), `{"":""}`, "{\n  \"\": \"\"\n}"}, {object(t, "a", list(), "b", object(t)), `{"a":[],"b":{}}`, "{\n  \"a\": [],\n  \"b\": {}\n}"},
		{object(t, "a\"\n é", minus), `{"a\"\n é":-1.5}`, "{\n  \"a\\\"\\n é\": -1.5\n}"}, {object(t, ": ", str(": ")), `{": ":": "}`, "{\n  \": \": \": \"\n}"},
		// In the order of their names' bytes.
		{object(t, "b", one, "a", null), `{"a":null,"b":1}`, "{\n  \"a\": null,\n  \"b\": 1\n}"}, {object(t, "é", one, "z", one, "a", one, "aa", one, "A", one, "10", one, "9", one, "", one), `{"":1,"10":1,"9":1,"A":1,"a":1,"aa":1,"z":1,"é":1}`, "{\n  \"\": 1,\n  \"10\": 1,\n  \"9\": 1,\n  \"A\": 1,\n  \"a\": 1,\n  \"aa\": 1,\n  \"z\": 1,\n  \"é\": 1\n}"}, {object(t, "\uffff", one, "𝄞", one, "\n", one, "~", one), "{\"\\n\":1,\"~\":1,\"\uffff\":1,\"𝄞\":1}", "{\n  \"\\n\": 1,\n  \"~\": 1,\n  \"\uffff\": 1,\n  \"𝄞\": 1\n}"},
		{object(t, "a", list(one, list(object(t, "b", null), object(t))), "c", object(t, "d", object(t, "e", yes), "f", no)), `{"a":[1,[{"b":null},{}]],"c":{"d":{"e":true},"f":false}}`, "{\n  \"a\": [\n    1,\n    [\n      {\n        \"b\": null\n      },\n      {}\n    ]\n  ],\n  \"c\": {\n    \"d\": {\n      \"e\": true\n    },\n    \"f\": false\n  }\n}"},
	} {
		if s := text.Compact(c.v); s != c.compact {
			t.Errorf("%+v: %s, not %s", c.v, s, c.compact)
		}
		if s := text.Indent(c.v); s != c.indented {
			t.Errorf("%+v:\n%s\nnot\n%s", c.v, s, c.indented)
		}
	}
}

// TestPrintParsed is P4.1: what is printed does not hang on how it was written.
func TestPrintParsed(t *testing.T) {
	for s, want := range map[string]string{
		" [ 1.50e2 , -0 , 1E-1 , 100 ] ": "[150,0,0.1,100]", `"\u0061\/\u000A\u001F\ud83d\ude00\u0022"`: `"a/\n\u001f😀\""`, `{"b":1,"\u0061":{"d":[ ],"c":{ }},"b":2}`: `{"a":{"c":{},"d":[]},"b":2}`,
	} {
		v, _, err := text.Parse(s)
		if got := text.Compact(v); got != want || err != api.OK {
			t.Errorf("%s: %s %d, not %s", s, got, err, want)
		}
	}
}

// TestPrintDeep is P4.1 for values that are too deep to be parsed: they have texts none the less.
func TestPrintDeep(t *testing.T) {
	const deep = 1 << 16
	v := make(api.Val, deep)
	var want, ends strings.Builder
	for i := range v {
		v[i] = api.Node{Kind: api.Arr + i%2, Many: 1}
		want.WriteString([]string{"[", `{"a":`}[i%2])
		ends.WriteString([]string{"}", "]"}[i%2])
		if i > 0 && i%2 == 0 {
			v[i].Name = "a"
		}
	}
	v[deep-1] = api.Node{Kind: api.Null}
	body := want.String()[:want.Len()-len(`{"a":`)] + "null" + ends.String()[len("}"):]
	if s := text.Compact(v); s != body {
		t.Errorf("%d bytes, not %d", len(s), len(body))
	}
	const many = 1000
	v = slices.Repeat(api.Val{{Kind: api.Arr, Many: 1}}, many)
	v[many-1].Many = 0
	lines := strings.Split(text.Indent(v), "\n")
	if len(lines) != 2*many-1 {
		t.Fatalf("%d lines", len(lines))
	}
	for i, line := range lines {
		in, mark := i, "["
		if i >= many {
			in, mark = 2*many-2-i, "]"
		}
		if i == many-1 {
			mark = "[]"
		}
		if line != strings.Repeat("  ", in)+mark {
			t.Fatalf("line %d: %.20q", i, strings.TrimLeft(line, " "))
		}
	}
	refuses(t, text.Compact(v), api.ErrDepth, 128)
}

// TestPrintWide is P4.1 for many parts.
func TestPrintWide(t *testing.T) {
	const wide = 100000
	v := list(slices.Repeat([]api.Val{list(yes)}, wide)...)
	if s := text.Compact(v); s != "["+strings.Repeat("[true],", wide-1)+"[true]]" {
		t.Errorf("%d bytes", len(s))
	}
	if s := text.Indent(v); s != "["+strings.Repeat("\n  [\n    true\n  ],", wide-1)+"\n  [\n    true\n  ]\n]" {
		t.Errorf("%d bytes", len(s))
	}
}

// TestPrintUntouched is P4.1, by R4: what is printed stays as it is, and so does what lies behind its end; what is parsed shares nothing with what is parsed later.
func TestPrintUntouched(t *testing.T) {
	const s = `{"a":[1,"x"],"b":{"c":null}}`
	mark := api.Node{Kind: 99, S: "mark"}
	v, _, _ := text.Parse(s)
	roomy := append(slices.Clone(v), mark)
	if text.Compact(roomy[:len(v)]) != s || text.Indent(roomy[:len(v)]) == "" || !slices.Equal(roomy[:len(v)], v) || roomy[len(v)] != mark {
		t.Error("what was printed has changed:", roomy)
	}
	before := slices.Clone(v)
	w, _, _ := text.Parse(s)
	for i := range w[:cap(w)] {
		w[:cap(w)][i] = mark
	}
	if !slices.Equal(v, before) {
		t.Error("what was parsed has changed:", v)
	}
	tells(t, s, before)
}

// TestPrintWrongRows is P4.1, by R1: a call ends without a panic, whatever it is given.
func TestPrintWrongRows(t *testing.T) {
	const most = int(^uint(0) >> 1)
	nodes := []api.Node{{Kind: -1}, {Kind: 7}, {Kind: most}, {Kind: api.Null, Many: 3}, {Kind: api.Str, S: "\xff"}, {Kind: api.Num, S: "x", E: most}, {Kind: api.Num, S: "1", E: -most - 1}, {Kind: api.Num, Name: "a", Many: 1}, {Kind: api.Arr, Many: -1}, {Kind: api.Arr, Many: 1}, {Kind: api.Arr, Many: most}, {Kind: api.Obj, Many: -most}, {Kind: api.Obj, Many: 2}, {Kind: api.Obj, Many: most}}
	if text.Compact(nil) != "" || text.Indent(nil) != "" || text.Compact(api.Val{}) != "" {
		t.Error("a text of nothing")
	}
	for _, a := range nodes {
		text.Compact(api.Val{a})
		text.Indent(api.Val{a})
		for _, b := range nodes {
			for _, c := range nodes {
				text.Compact(api.Val{a, b, c})
				text.Indent(api.Val{a, b, c})
			}
		}
	}
}
