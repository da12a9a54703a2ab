package eval_test

import (
	"strconv"
	"strings"
	"testing"

	"loupe/api"
	"loupe/eval"
)

// kinds are values of each kind, those with parts and without.
func kinds() []string {
	return []string{"null", "false", "true", "7", `"aéb"`, `""`, "[5,6]", "[]", `{"a":1,"b":2}`, "{}"}
}

// TestKinds is P10.1: each op of a value of each kind.
func TestKinds(t *testing.T) {
	for f, wants := range map[string]string{
		".":               `null false true 7 "aéb" "" [5,6] [] {"a":1,"b":2} {}`,
		".a":              `null error error error error error error error 1 null`,
		".[1]":            `null error error error error error 6 null error error`,
		".[1:]":           `null error error error "éb" "" [6] [] error error`,
		". | .":           `null false true 7 "aéb" "" [5,6] [] {"a":1,"b":2} {}`,
		"map(.)":          `error error error error error error [5,6] [] [1,2] []`,
		"map_values(.)":   `error error error error error error [5,6] [] {"a":1,"b":2} {}`,
		"select(. == 7)":  `none none none 7 none none none none none none`,
		"select(. > 7)":   `none none none none "aéb" "" [5,6] [] {"a":1,"b":2} {}`,
		"select(.a == 1)": `none error error error error error error error {"a":1,"b":2} none`,
		"{x: .}":          `{"x":null} {"x":false} {"x":true} {"x":7} {"x":"aéb"} {"x":""} {"x":[5,6]} {"x":[]} {"x":{"a":1,"b":2}} {"x":{}}`,
		"{}":              `{} {} {} {} {} {} {} {} {} {}`,
		"[.]":             `[null] [false] [true] [7] ["aéb"] [""] [[5,6]] [[]] [{"a":1,"b":2}] [{}]`,
		"[]":              `[] [] [] [] [] [] [] [] [] []`,
		"to_entries":      `error error error error error error [{"key":0,"value":5},{"key":1,"value":6}] [] [{"key":"a","value":1},{"key":"b","value":2}] []`,
		"from_entries":    `error error error error error error error {} error error`,
		"group_by(.)":     `error error error error error error [[5],[6]] [] error error`,
		"sort_by(.)":      `error error error error error error [5,6] [] error error`,
		"reverse":         `[] error error error "béa" "" [6,5] [] error error`,
		"del(.)":          `null null null null null null null null null null`,
		"del(.a)":         `null error error error error error error error {"b":2} {}`,
		"del(.[0])":       `null error error error error error [6] [] error error`,
	} {
		want := strings.Fields(wants)
		for i, v := range kinds() {
			gives(t, f, v, want[i])
		}
	}
}

// row is a filter, a value, and what is given.
type row [3]string

func givesAll(t *testing.T, rows ...row) {
	t.Helper()
	for _, x := range rows {
		gives(t, x[0], x[1], x[2])
	}
}

// TestSteps is P10.1: fields and parts that are there, and that are not.
func TestSteps(t *testing.T) {
	givesAll(t,
		row{".a", `{"a":{"b":[1]}}`, `{"b":[1]}`}, row{".c", `{"a":1,"b":2,"d":3}`, "null"}, row{".b", `{"a":null,"b":false}`, "false"}, row{".a", `{"a":null}`, "null"},
		row{`.""`, `{"":1}`, "1"}, row{`.""`, `{"a":1}`, "null"}, row{`."é b"`, `{"é":1,"é b":2,"é c":3}`, "2"}, row{`."\u0000"`, `{"\u0000":3,"":4}`, "3"}, row{".A", `{"a":1}`, "null"},
		row{".[0]", "[[1,[2]],3]", "[1,[2]]"}, row{".[1]", "[[1,[2]],3]", "3"}, row{".[2]", "[[1,[2]],3]", "null"}, row{".[0]", "[null]", "null"}, row{".[1000000]", "[1]", "null"}, row{".[0]", `"a"`, wrong},
		row{".a.b.c", `{"a":{"b":{"c":[1,{}]}}}`, "[1,{}]"}, row{".a.b.c", "{}", "null"}, row{".a[1].b", `{"a":[0,{"b":2}]}`, "2"}, row{".a[1].b", `{"a":[0]}`, "null"}, row{".a[1].b", `{"a":[0,1]}`, wrong}, row{".a.b", `{"a":[]}`, wrong}, row{".a[0]", `{"a":{}}`, wrong},
	)
}

// TestTails is P10.1: tails from the beginning, from within, from the end and from behind it, of lists, and of strings whose runes have one byte to four.
func TestTails(t *testing.T) {
	wants := map[string][]string{
		`[1,[2],{"a":3}]`: {`[1,[2],{"a":3}]`, `[[2],{"a":3}]`, `[{"a":3}]`, "[]", "[]"},
		`"aé"`:            {`"aé"`, `"é"`, `""`, `""`, `""`},
		`"𝄞é€"`:           {`"𝄞é€"`, `"é€"`, `"€"`, `""`, `""`},
		`"a\u0000b"`:      {`"a\u0000b"`, `"\u0000b"`, `"b"`, `""`, `""`},
		"\"e\u0301x\"":    {"\"e\u0301x\"", "\"\u0301x\"", `"x"`, `""`, `""`},
	}
	for v, l := range wants {
		for n, want := range l {
			gives(t, ".["+strconv.Itoa(n)+":]", v, want)
		}
		gives(t, ".[1000000:]", v, l[4])
	}
}

// TestPipes is P10.1: what the second one gives of what the first one gives; none and an error of either.
func TestPipes(t *testing.T) {
	givesAll(t,
		row{".a | .b", `{"a":{"b":3}}`, "3"}, row{".a | .[1:] | .[0]", `{"a":[1,2,3]}`, "2"}, row{"[.] | [.] | .[0]", "1", "[1]"},
		row{"select(. == 1) | .a", "2", none}, row{"select(. == 2) | .a", "2", wrong}, row{".a | select(. == 1)", `{"a":2}`, none}, row{".a | .b", `{"a":2}`, wrong}, row{".a | .b", "1", wrong},
		row{".a | select(. == 1) | .b", `{"a":2}`, none}, row{"select(. == 1) | select(.a == 1)", "2", none}, row{"select(.a == 1) | select(. == 1)", "2", wrong},
		row{"(. | .a) | .b", `{"a":{"b":3}}`, "3"}, row{"reverse | .[0]", "null", "null"},
	)
}

// TestMaps is P10.1: map and map_values of lists and objects, with no parts, with some of which none is given, and with an error at the first part, in the middle and at the last.
func TestMaps(t *testing.T) {
	givesAll(t,
		row{"map(.a)", `[{"a":1},{},null,{"a":[2]}]`, "[1,null,null,[2]]"}, row{"map(.a)", `{"y":{"a":1},"x":{"a":2}}`, "[2,1]"}, row{"map(.a)", "[]", "[]"}, row{"map(.a)", "{}", "[]"},
		row{"map(select(. > 1))", "[1,2,0,3,1]", "[2,3]"}, row{"map(select(. > 1))", "[1,0]", "[]"}, row{"map(select(. > 1))", `{"c":3,"a":1,"b":2}`, "[2,3]"}, row{"map([.])", `{"a":{"b":1}}`, `[[{"b":1}]]`},
		row{"map(.a)", `[5,{}]`, wrong}, row{"map(.a)", "[{},5,{}]", wrong}, row{"map(.a)", "[{},{},5]", wrong}, row{"map(.a)", `{"a":5,"b":{}}`, wrong}, row{"map(.a)", `{"a":{},"b":5,"c":{}}`, wrong}, row{"map(.a)", `{"a":{},"b":5}`, wrong},
		row{"map(select(.a == 1))", `[{"a":2},5]`, wrong}, row{"map(select(.a == 1))", `[5,{"a":2}]`, wrong}, row{"map(map(.))", "[[1],{\"a\":2},[]]", "[[1],[2],[]]"}, row{"map(map(.))", "[[1],2]", wrong},
		row{"map_values(.a)", `{"x":{"a":1},"y":{},"z":null}`, `{"x":1,"y":null,"z":null}`}, row{"map_values(.a)", `[{"a":1},{}]`, "[1,null]"}, row{"map_values(.a)", "[]", "[]"}, row{"map_values(.a)", "{}", "{}"},
		row{"map_values(select(. > 1))", `{"x":1,"y":2,"z":0,"é":3}`, `{"y":2,"é":3}`}, row{"map_values(select(. > 1))", "[1,2,3,0]", "[2,3]"}, row{"map_values(select(. > 5))", `{"x":1}`, "{}"}, row{"map_values(select(. > 5))", "[1]", "[]"},
		row{"map_values(.a)", `[5,{}]`, wrong}, row{"map_values(.a)", "[{},5,{}]", wrong}, row{"map_values(.a)", "[{},{},5]", wrong}, row{"map_values(.a)", `{"a":5,"b":{}}`, wrong}, row{"map_values(.a)", `{"a":{},"b":5,"c":{}}`, wrong}, row{"map_values(.a)", `{"a":{},"b":5}`, wrong},
		row{"map_values(select(.a == 1))", `{"x":{"a":2},"y":5}`, wrong}, row{"map_values({a: .})", `{"x":{"y":1}}`, `{"x":{"a":{"y":1}}}`}, row{"map_values(map_values([.]))", `{"x":[1],"y":{"z":2}}`, `{"x":[[1]],"y":{"z":[2]}}`},
	)
}

// TestWhere is P10.1: select of a condition that holds, does not, and is an error.
func TestWhere(t *testing.T) {
	givesAll(t,
		row{"select(.a == 1)", `{"a":1,"b":[2]}`, `{"a":1,"b":[2]}`}, row{"select(.a == 1)", `{"a":2}`, none}, row{"select(.a == 1)", "[]", wrong}, row{"select(.a == 1)", "null", none}, row{"select(.a == null)", "null", "null"},
		row{"select(.a.b == 1)", `{"a":1}`, wrong}, row{"select((.a.b == 1 | not))", `{"a":1}`, wrong}, row{"select((.a == 1 | not))", `{"a":1}`, none}, row{"select((.a == 1 | not))", `{}`, "{}"},
	)
}

// TestMade is P10.1: objects and lists of what filters give, with no parts, with one and with more, with a part that gives none ahead of one that is an error and behind it.
func TestMade(t *testing.T) {
	givesAll(t,
		row{"{x: .a}", `{"a":[1]}`, `{"x":[1]}`}, row{"{z: .a, y: ., x: .b}", `{"a":1,"b":2}`, `{"x":2,"y":{"a":1,"b":2},"z":1}`}, row{`{"": ., "é": ., "a b": ., B: ., a: .}`, "1", `{"":1,"B":1,"a":1,"a b":1,"é":1}`},
		row{"{x: select(. == 1)}", "2", none}, row{"{x: ., y: select(. == 1), z: .}", "2", none}, row{"{x: .a}", "2", wrong}, row{"{x: ., y: .a}", "2", wrong},
		row{"{x: select(. == 1), y: .a}", "2", none}, row{"{y: select(. == 1), x: .a}", "2", none}, row{"{x: .a, y: select(. == 1)}", "2", wrong}, row{"{y: .a, x: select(. == 1)}", "2", wrong}, row{"{w: ., x: select(. == 1), y: ., z: .a}", "2", none}, row{"{w: ., x: .a, y: ., z: select(. == 1)}", "2", wrong},
		row{"[.a]", `{"a":[1]}`, "[[1]]"}, row{"[.b, ., .a]", `{"a":1}`, `[null,{"a":1},1]`}, row{"[select(. == 1)]", "2", "[]"}, row{"[., select(. == 1), .]", "2", "[2,2]"}, row{"[select(. == 1), select(. == 2)]", "2", "[2]"},
		row{"[.a]", "2", wrong}, row{"[select(. == 1), .a]", "2", wrong}, row{"[.a, select(. == 1)]", "2", wrong}, row{"[., .a, .]", "2", wrong}, row{"[., [.[0]]]", "2", wrong},
	)
}

// TestEntries is P10.1: entries of objects and of lists, and objects of entries.
func TestEntries(t *testing.T) {
	givesAll(t,
		row{"to_entries", `{"b":{"x":1},"":null,"a":[2]}`, `[{"key":"","value":null},{"key":"a","value":[2]},{"key":"b","value":{"x":1}}]`}, row{"to_entries", `[{"key":9},[],null]`, `[{"key":0,"value":{"key":9}},{"key":1,"value":[]},{"key":2,"value":null}]`},
		row{"from_entries", `[{"key":"b","value":1},{"key":"a","value":[2]}]`, `{"a":[2],"b":1}`}, row{"from_entries", `[{"key":"a"}]`, `{"a":null}`}, row{"from_entries", `[{"key":"a","value":null}]`, `{"a":null}`}, row{"from_entries", `[{"key":"","value":{"key":"a"}}]`, `{"":{"key":"a"}}`},
		row{"from_entries", `[{"key":"a","value":1},{"key":"b","value":2},{"key":"a","value":3}]`, `{"a":3,"b":2}`}, row{"from_entries", `[{"key":"a","value":1},{"key":"a"}]`, `{"a":null}`}, row{"from_entries", `[{"key":"a","value":3},{"key":"a","value":2},{"key":"a","value":1},{"key":"é","value":0}]`, `{"a":1,"é":0}`},
		row{"from_entries", `[{"key":"a","value":1,"name":"b","Key":"c","k":"d","v":2,"Value":3}]`, `{"a":1}`}, row{"from_entries", `[{"Value":3,"key":"a","z":1}]`, `{"a":null}`},
		row{"from_entries", `[{"value":1}]`, wrong}, row{"from_entries", `[{"name":"a","value":1}]`, wrong}, row{"from_entries", `[{"key":1,"value":1}]`, wrong}, row{"from_entries", `[{"key":null}]`, wrong}, row{"from_entries", `[{"key":false}]`, wrong}, row{"from_entries", `[{"key":true}]`, wrong}, row{"from_entries", `[{"key":["a"]}]`, wrong}, row{"from_entries", `[{"key":{"key":"a"}}]`, wrong},
		row{"from_entries", `[{"key":"a"},5]`, wrong}, row{"from_entries", `[null]`, wrong}, row{"from_entries", `[[]]`, wrong}, row{"from_entries", `["a",{"key":"a"}]`, wrong}, row{"from_entries", `[{"key":"a"},{},{"key":"a"}]`, wrong}, row{"from_entries", `{"key":"a"}`, wrong},
		row{"with_entries({key: .key, value: .value.a})", `{"x":{"a":1},"y":{}}`, `{"x":1,"y":null}`}, row{"with_entries(select(.key > \"x\"))", `{"x":1,"y":2}`, `{"y":2}`}, row{"with_entries(.)", "[1]", wrong}, row{"with_entries(.)", "[]", "{}"},
	)
}

// TestPlaces is P10.1: a list's places as keys, also those whose figures end in noughts.
func TestPlaces(t *testing.T) {
	const many = 1101
	var want []string
	for i := range many {
		want = append(want, `{"key":`+strconv.Itoa(i)+`,"value":null}`)
	}
	gives(t, "to_entries", "["+repeated("null", many)+"]", "["+strings.Join(want, ",")+"]")
}

// TestKeys is P10.1: group_by and sort_by with keys of each kind, with some the same, and with a key that is an error.
func TestKeys(t *testing.T) {
	const mixed = `[{"k":{"a":1}},{"k":[1]},{"k":"a"},{"k":2},{"k":true},{"k":false},{"k":null},{"k":[]},{"k":{}},{"k":"B"},{"k":-1},{"k":1.5}]`
	givesAll(t,
		row{"sort_by(.k)", mixed, `[{"k":null},{"k":false},{"k":true},{"k":-1},{"k":1.5},{"k":2},{"k":"B"},{"k":"a"},{"k":[]},{"k":[1]},{"k":{}},{"k":{"a":1}}]`},
		row{"group_by(.k)", mixed, `[[{"k":null}],[{"k":false}],[{"k":true}],[{"k":-1}],[{"k":1.5}],[{"k":2}],[{"k":"B"}],[{"k":"a"}],[{"k":[]}],[{"k":[1]}],[{"k":{}}],[{"k":{"a":1}}]]`},
		row{"sort_by(.a)", `[{"a":2,"n":0},{"n":1},{"a":1,"n":2},{"a":2,"n":3},{"a":null,"n":4},null,{"a":1,"n":5}]`, `[{"n":1},{"a":null,"n":4},null,{"a":1,"n":2},{"a":1,"n":5},{"a":2,"n":0},{"a":2,"n":3}]`},
		row{"group_by(.a)", `[{"a":2,"n":0},{"n":1},{"a":1,"n":2},{"a":2,"n":3},{"a":null,"n":4},null,{"a":1,"n":5}]`, `[[{"n":1},{"a":null,"n":4},null],[{"a":1,"n":2},{"a":1,"n":5}],[{"a":2,"n":0},{"a":2,"n":3}]]`},
		row{"sort_by(.)", "[3,1.0,2,1e0,-1]", "[-1,1,1,2,3]"}, row{"group_by(.)", "[3,1.0,2,1e0,3.0]", "[[1,1],[2],[3,3]]"}, row{"sort_by(.[1].a)", `[[0,{"a":2}],[5],[1,{"a":1}]]`, `[[5],[1,{"a":1}],[0,{"a":2}]]`},
		row{"sort_by(.)", `[{"b":1},{"a":2},{"a":1,"b":0}]`, `[{"a":2},{"a":1,"b":0},{"b":1}]`}, row{"group_by(.)", `[[2],[1,2],[2]]`, `[[[1,2]],[[2],[2]]]`},
		row{"sort_by(.a)", "[]", "[]"}, row{"group_by(.a)", "[]", "[]"}, row{"sort_by(.a)", "[null]", "[null]"}, row{"group_by(.a)", "[{}]", "[[{}]]"},
		row{"sort_by(.a)", "[5,{}]", wrong}, row{"sort_by(.a)", "[{},5,{}]", wrong}, row{"sort_by(.a)", "[{},[]]", wrong}, row{"group_by(.a)", "[5,{}]", wrong}, row{"group_by(.a)", "[{},5,{}]", wrong}, row{"group_by(.a)", "[{},[]]", wrong}, row{"sort_by(.a.b)", `[{"a":1}]`, wrong}, row{"group_by(.[0])", "[[1],{}]", wrong},
	)
}

// TestReverse is P10.1.
func TestReverse(t *testing.T) {
	givesAll(t,
		row{"reverse", `[1,[2,3],{"a":[4,5]}]`, `[{"a":[4,5]},[2,3],1]`}, row{"reverse", "[1]", "[1]"}, row{"reverse", `"a"`, `"a"`}, row{"reverse", `"aé€𝄞"`, `"𝄞€éa"`}, row{"reverse", "\"e\u0301\"", "\"\u0301e\""}, row{"reverse", `"\n\u0000"`, `"\u0000\n"`}, row{"reverse | reverse", `"aé€𝄞"`, `"aé€𝄞"`},
	)
}

// TestDelete is P10.1: del with no steps, with one and with more, of what is there, of what is not, and through null.
func TestDelete(t *testing.T) {
	for _, x := range []row{
		{".", "[1]", "null"}, {".a", `{"a":1}`, "{}"}, {".a", `{"a":[1,{}],"b":2,"é":3}`, `{"b":2,"é":3}`}, {".b", `{"a":1,"c":2}`, `{"a":1,"c":2}`}, {`.""`, `{"":1,"a":2}`, `{"a":2}`},
		{".[0]", "[1,[2],3]", "[[2],3]"}, {".[1]", "[1,[2],3]", "[1,3]"}, {".[2]", "[1,[2],3]", "[1,[2]]"}, {".[3]", "[1,[2],3]", "[1,[2],3]"}, {".[0]", "[1]", "[]"}, {".[1000000]", "[1]", "[1]"},
		{".a.b", `{"a":{"b":1,"c":2},"b":3}`, `{"a":{"c":2},"b":3}`}, {".a[1].b", `{"a":[{"b":0},{"b":1},{"b":2}]}`, `{"a":[{"b":0},{},{"b":2}]}`}, {".[0][0][0]", "[[[1,2],3],4]", "[[[2],3],4]"}, {".a.b.c.d", `{"a":{"b":{"c":{"d":1}}}}`, `{"a":{"b":{"c":{}}}}`},
		{".a.b", "{}", "{}"}, {".a.b", `{"a":{}}`, `{"a":{}}`}, {".a[0]", `{"b":1}`, `{"b":1}`}, {".[1][0]", "[[1]]", "[[1]]"}, {".a[0].b[1]", "{}", "{}"}, {".[0].a", "[]", "[]"},
		{".a", "null", "null"}, {".[0]", "null", "null"}, {".a[0]", "null", "null"}, {".a.b", `{"a":null,"c":1}`, `{"a":null,"c":1}`}, {".a[0]", `{"a":null}`, `{"a":null}`}, {".[0].a.b", "[null,1]", "[null,1]"}, {".a", `{"a":null}`, "{}"}, {".a.b", `{"a":{"b":null}}`, `{"a":{}}`},
		{".a", "[1]", wrong}, {".[0]", `{"a":1}`, wrong}, {".a", "1", wrong}, {".[0]", "false", wrong}, {".[0]", `"ab"`, wrong}, {".a.b", `{"a":1}`, wrong}, {".a.b", `{"a":[]}`, wrong}, {".a[0]", `{"a":{}}`, wrong}, {".a[0]", `{"a":"b"}`, wrong}, {".a.b.c", `{"a":{"b":false}}`, wrong}, {".[0][0]", "[1]", wrong},
	} {
		gives(t, "del("+x[0]+")", x[1], x[2])
		v, err := eval.Delete(pathOf(t, x[0]), valueOf(t, x[1]))
		if got := told(t, v, err); got != x[2] {
			t.Errorf("%s of %s: %s, not %s", x[0], x[1], got, x[2])
		}
	}
}

// TestFollow is P10.1: what a path gives, as fields and parts that are piped do.
func TestFollow(t *testing.T) {
	for _, x := range []row{
		{".", `{"a":1}`, `{"a":1}`}, {".", "null", "null"}, {".a", `{"a":[1]}`, "[1]"}, {".a", "{}", "null"}, {".a", "null", "null"}, {".a", "[]", wrong}, {".a", "1", wrong}, {".a", `"a"`, wrong},
		{".[1]", "[1,[2]]", "[2]"}, {".[2]", "[1,[2]]", "null"}, {".[2]", "null", "null"}, {".[0]", "{}", wrong}, {".[0]", `"a"`, wrong}, {".[0]", "true", wrong},
		{".a[1].b", `{"a":[0,{"b":{"c":1}}]}`, `{"c":1}`}, {".a[1].b", `{"a":[0,null]}`, "null"}, {".a[1].b", `{"a":[0]}`, "null"}, {".a[1].b", "{}", "null"}, {".a[1].b", "null", "null"}, {".a[1].b", `{"a":[0,1]}`, wrong}, {".a[1].b", `{"a":{}}`, wrong}, {".a[1].b", `{"a":0}`, wrong}, {".a[1].b", "[]", wrong},
		{`."é b"`, `{"é b":1}`, "1"}, {".a" + strings.Repeat("[0]", api.MaxSteps-1), `{"a":` + strings.Repeat("[", api.MaxSteps-1) + "5" + strings.Repeat("]", api.MaxSteps-1) + "}", "5"},
	} {
		p := pathOf(t, x[0])
		v, err := eval.Follow(p, valueOf(t, x[1]))
		if got := told(t, v, err); got != x[2] {
			t.Errorf("%s of %s: %s, not %s", x[0], x[1], got, x[2])
		}
		v, err = eval.Eval(stepByStep(p), valueOf(t, x[1]))
		if got := told(t, v, err); got != x[2] {
			t.Errorf("%s of %s, piped: %s, not %s", x[0], x[1], got, x[2])
		}
	}
}

// stepByStep is a path as fields and parts that are piped.
func stepByStep(p api.Path) api.Filter {
	if len(p) == 0 {
		return id()
	}
	f := field(p[0].Name)
	if p[0].Part {
		f = counts(api.OPart, p[0].N)
	}
	if len(p) == 1 {
		return f
	}
	return does(api.OPipe, f, stepByStep(p[1:]))
}
