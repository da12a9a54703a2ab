package parse_test

import (
	"strconv"
	"strings"
	"testing"

	"loupe/api"
)

// TestPrims is P9.1: each prim, alone.
func TestPrims(t *testing.T) {
	for s, want := range map[string]api.Filter{
		".": id(), ".a": field("a"), "._9": field("_9"), ".map": field("map"), ".not": field("not"), `."a"`: field("a"), `."b c"`: field("b c"), `.""`: field(""), `."\u00e9\/"`: field("é/"), `."."`: field("."),
		"(.)": id(), "(.a)": field("a"), "((.a))": field("a"), "(.|.)": pipe(id(), id()), "(reverse)": does(api.ORev),
		"{}": object(), "{a:.}": object(named("a", id())), "{a:.b,b:.a}": object(named("a", field("b")), named("b", field("a"))), "{b:.,a:.,c:[]}": object(named("b", id()), named("a", id()), named("c", list())),
		"[]": list(), "[.]": list(id()), "[.a,.b]": list(field("a"), field("b")), "[[],[[]],{}]": list(list(), list(list()), object()), "[.,.,.,.]": list(id(), id(), id(), id()),
		"map(.)": does(api.OMap, id()), "map(.a|.b)": does(api.OMap, pipe(field("a"), field("b"))), "map(map([]))": does(api.OMap, does(api.OMap, list())),
		"map_values(.a)": does(api.OVals, field("a")), "map_values(.|.|.)": does(api.OVals, pipe(id(), id(), id())),
		"with_entries(.)": pipe(entries(id())...), "with_entries(.a|.b)": pipe(entries(pipe(field("a"), field("b")))...), "with_entries({key: .key, value: (.value | .a)})": pipe(entries(object(named("key", field("key")), named("value", pipe(field("value"), field("a")))))...),
		"select(.==1)":  where(compare(".", api.Eq, number("1"))),
		"group_by(.)":   says(api.OGroup, "."),
		"group_by(.k)":  says(api.OGroup, ".k"),
		"sort_by(.)":    says(api.OSort, "."),
		"sort_by(.[2])": says(api.OSort, ".[2]"),
		"del(.)":        says(api.ODel, "."),
		"del(.a[0].b)":  says(api.ODel, ".a[0].b"),
		"to_entries":    does(api.OToE), "from_entries": does(api.OFromE), "reverse": does(api.ORev),
	} {
		tells(t, s, want)
		tells(t, "("+s+")", want)
		tells(t, "\n"+s+" ", want)
		tells(t, "["+s+", .]", list(want, id()))
		tells(t, "{x: "+s+", y: .}", object(named("x", want), named("y", id())))
		tells(t, "map("+s+")", does(api.OMap, want))
	}
}

// TestDot is P9.1: a prim `.` with suffixes, of which the first one is in brackets, is these alone; with a field it stands for itself.
func TestDot(t *testing.T) {
	for s, want := range map[string]api.Filter{
		".[0]": part(0), ". [ 0 ]": part(0), ".[7:]": tail(7), ".\n[7 :\t]": tail(7),
		".[0][1]": pipe(part(0), part(1)), ".[0:][1:][2]": pipe(tail(0), tail(1), part(2)), ".[0].a": pipe(part(0), field("a")), ".[1:].a[2]": pipe(tail(1), field("a"), part(2)), `.[0]."b c"`: pipe(part(0), field("b c")),
		". .a": pipe(id(), field("a")), `. ."a"`: pipe(id(), field("a")), ". .a.b": pipe(id(), field("a"), field("b")), ". .a[0]": pipe(id(), field("a"), part(0)), ". .a[0:]": pipe(id(), field("a"), tail(0)),
		"(.)[0]": pipe(id(), part(0)), "(.).a": pipe(id(), field("a")), "(.)[0:]": pipe(id(), tail(0)), "((.))[0].a": pipe(id(), part(0), field("a")),
		"(.[0])[1]": pipe(part(0), part(1)), "(. .a)[1]": pipe(id(), field("a"), part(1)),
		".|.[0]": pipe(id(), part(0)), ".[0]|.": pipe(part(0), id()), ".[0]|.[1]": pipe(part(0), part(1)), ".|.": pipe(id(), id()), ".|.a": pipe(id(), field("a")),
		"[.[0]]": list(part(0)), "[., .[0]]": list(id(), part(0)), "{a:.[0]}": object(named("a", part(0))), "{a: . .a}": object(named("a", pipe(id(), field("a")))), "map(.[0])": does(api.OMap, part(0)),
	} {
		tells(t, s, want)
	}
}

// TestSuffixes is P9.1: each suffix, and more than one, behind a prim of each other kind.
func TestSuffixes(t *testing.T) {
	for s, prim := range map[string][]api.Filter{
		".x": {field("x")}, `."x y"`: {field("x y")}, "(.x)": {field("x")}, "(.x|.y)": {field("x"), field("y")}, "(.x.y)": {field("x"), field("y")}, "((.|.)|.)": {id(), id(), id()},
		"{}": {object()}, "{x:.y}": {object(named("x", field("y")))}, "[]": {list()}, "[.x]": {list(field("x"))},
		"map(.x)": {does(api.OMap, field("x"))}, "map_values(.|.)": {does(api.OVals, pipe(id(), id()))}, "with_entries(.)": entries(id()), "select(.==null)": {where(compare(".", api.Eq, api.Node{}))},
		"group_by(.)": {says(api.OGroup, ".")}, "sort_by(.x)": {says(api.OSort, ".x")}, "del(.x)": {says(api.ODel, ".x")}, "to_entries": {does(api.OToE)}, "from_entries": {does(api.OFromE)}, "reverse": {does(api.ORev)},
	} {
		for suffix, l := range map[string][]api.Filter{
			"": nil, ".a": {field("a")}, `."b c"`: {field("b c")}, "[0]": {part(0)}, "[0:]": {tail(0)}, " .a": {field("a")}, " [ 3 ]": {part(3)}, "\n[\n3\n:\n]\n": {tail(3)},
			".a.b": {field("a"), field("b")}, ".a[1]": {field("a"), part(1)}, "[1].a": {part(1), field("a")}, "[1:][2]": {tail(1), part(2)}, "[1][2:].a.b[3]": {part(1), tail(2), field("a"), field("b"), part(3)},
		} {
			want := append(append([]api.Filter{}, prim...), l...)
			tells(t, s+suffix, pipe(want...))
			tells(t, s+suffix+"|"+s+suffix, pipe(append(want, want...)...))
			tells(t, "["+s+suffix+","+s+suffix+"]", list(pipe(want...), pipe(want...)))
			tells(t, "("+s+")"+suffix, pipe(want...))
		}
	}
}

// TestPosts is P9.1: two posts and more with `|` between, in brackets of whatever sort.
func TestPosts(t *testing.T) {
	a, b, c, d := field("a"), field("b"), field("c"), field("d")
	for s, want := range map[string]api.Filter{
		".a|.b": pipe(a, b), ".a|.b|.c": pipe(a, b, c), ".a|.b|.c|.d": pipe(a, b, c, d), ".a|.b|.c|.d|.a": pipe(a, b, c, d, a),
		"(.a|.b)|.c": pipe(a, b, c), ".a|(.b|.c)": pipe(a, b, c), "(.a|.b)|(.c|.d)": pipe(a, b, c, d), ".a|(.b|.c)|.d": pipe(a, b, c, d), "((.a|.b)|.c)|.d": pipe(a, b, c, d), ".a|(.b|(.c|.d))": pipe(a, b, c, d),
		".a.b|.c": pipe(a, b, c), ".a|.b.c.d": pipe(a, b, c, d), "(.a|.b).c|.d": pipe(a, b, c, d),
		".a|with_entries(.b)|.c": pipe(a, does(api.OToE), does(api.OMap, b), does(api.OFromE), c),
		"map(.a|.b)|.c":          pipe(does(api.OMap, pipe(a, b)), c),
		"[(.a|.b),.c]":           list(pipe(a, b), c), "[(.a|.b|.c)]": list(pipe(a, b, c)), "{a:(.a|.b)}": object(named("a", pipe(a, b))), "[.a.b]": list(pipe(a, b)),
		"map(select(.a > 1) | .b)": does(api.OMap, pipe(where(compare(".a", api.Gt, number("1"))), b)),
	} {
		tells(t, s, want)
	}
}

// TestNames is P9.1: an entry's name is a word, or a string, also such as stands for something elsewhere; names in objects in one another may be the same.
func TestNames(t *testing.T) {
	for s, name := range map[string]string{"a": "a", "_": "_", "Zz_9": "Zz_9", "map": "map", "select": "select", "not": "not", "and": "and", "null": "null", "e5": "e5", `"a"`: "a", `""`: "", `"b c"`: "b c", `"9"`: "9", `"é"`: "é", `"\u00e9\n\/"`: "é\n/", `"\ud83d\ude00"`: "😀", `"{a:.}"`: "{a:.}", `".a"`: ".a"} {
		tells(t, "{"+s+":.x}", object(named(name, field("x"))))
		tells(t, "{ "+s+" : .x , zz : .y }", object(named(name, field("x")), named("zz", field("y"))))
		tells(t, "{zz:.y,"+s+":{"+s+":.x.y}}", object(named("zz", field("y")), named(name, object(named(name, pipe(field("x"), field("y")))))))
		tells(t, "[{"+s+":.},{"+s+":.}]", list(object(named(name, id())), object(named(name, id()))))
		refuses(t, "{"+s+":.x,"+s+":.y}", api.ErrForm, len(s)+5)
		refuses(t, "{"+s+":.x,zz:{"+s+":.}, "+s+" :.y}", api.ErrForm, 2*len(s)+14)
	}
	tells(t, `{a: ., "A": ., "a ": ., " a": ., aa: .}`, object(named("a", id()), named("A", id()), named("a ", id()), named(" a", id()), named("aa", id())))
	tells(t, `{a: {b: .}, b: {a: .}}`, object(named("a", object(named("b", id()))), named("b", object(named("a", id())))))
}

// paths are paths as they are written, and their texts.
func paths() map[string]string {
	return map[string]string{
		".": ".", " . ": ".", ".a": ".a", `."a"`: ".a", `."b c"`: `."b c"`, `.""`: `.""`, `."\u00e9"`: `."é"`, ".null": ".null",
		".[0]": ".[0]", ". [ 0 ]": ".[0]", ".[0][1]": ".[0][1]", ".[0].a": ".[0].a", `.[0]."a"[2]`: ".[0].a[2]", ".[1000000]": ".[1000000]", ".[1e2]": ".[100]", ".[2.0]": ".[2]", ".[-0]": ".[0]",
		".a.b": ".a.b", ".a .b": ".a.b", ".a[0]": ".a[0]", ".a[0].b[1].c": ".a[0].b[1].c", ".a[0][1][2]": ".a[0][1][2]", `.a ."b c"`: `.a."b c"`, ".a\n[ 0 ]\t.b": ".a[0].b",
		strings.Repeat(".a", api.MaxSteps):              strings.Repeat(".a", api.MaxSteps),
		"." + strings.Repeat("[3]", api.MaxSteps):       "." + strings.Repeat("[3]", api.MaxSteps),
		strings.Repeat(".a[3]", api.MaxSteps/2):         strings.Repeat(".a[3]", api.MaxSteps/2),
		"." + strings.Repeat(`[3]."a"`, api.MaxSteps/2): "." + strings.Repeat("[3].a", api.MaxSteps/2),
	}
}

// TestPaths is P9.1: each sort of path, where one stands.
func TestPaths(t *testing.T) {
	for s, want := range paths() {
		tells(t, "group_by("+s+")", says(api.OGroup, want))
		tells(t, "sort_by("+s+").a", pipe(says(api.OSort, want), field("a")))
		tells(t, "[del( "+s+" )]", list(says(api.ODel, want)))
		tells(t, "select("+s+"==1)", where(compare(want, api.Eq, number("1"))))
		tells(t, "select((("+s+" < null)|not))", where(not(compare(want, api.Lt, api.Node{}))))
	}
}

// TestCompare is P9.1: each sign between a path and what it is held against, and each kind of what it is held against.
func TestCompare(t *testing.T) {
	for n, sign := range strings.Fields("== != < <= > >=") {
		for s, c := range map[string]api.Node{
			"null": {Kind: api.Null}, "false": {Kind: api.False}, "true": {Kind: api.True},
			"0": number(""), "-0": number(""), "1": number("1"), "-1.50": {Kind: api.Num, S: "15", E: -1, Neg: true}, "2e3": {Kind: api.Num, S: "2", E: 3}, "1e-1000": {Kind: api.Num, S: "1", E: -1000}, "1e999": {Kind: api.Num, S: "1", E: 999}, "1000001": number("1000001"), "0.5": {Kind: api.Num, S: "5", E: -1},
			`""`: str(""), `"x"`: str("x"), `"null"`: str("null"), `"a\"\n\u0000é"`: str("a\"\n\x00é"), `" | not)"`: str(" | not)"),
		} {
			for _, blank := range []string{"", " ", "\t\n"} {
				tells(t, "select(."+blank+sign+blank+s+")", where(compare(".", n, c)))
				tells(t, "select(.a[0]"+blank+sign+blank+s+blank+")", where(compare(".a[0]", n, c)))
			}
			tells(t, "map(select((.a"+sign+s+" | not) or .b"+sign+s+" and ."+sign+s+"))", does(api.OMap, where(or(not(compare(".a", n, c)), and(compare(".b", n, c), compare(".", n, c))))))
		}
	}
}

// TestConditions is P9.1: how conditions are joined, and what brackets do.
func TestConditions(t *testing.T) {
	a, b, c, d := compare(".a", api.Eq, number("1")), compare(".b", api.Lt, str("x")), compare(".", api.Ne, api.Node{}), compare(".[0]", api.Ge, api.Node{Kind: api.True})
	written := strings.NewReplacer("A", ".a==1", "B", `.b<"x"`, "C", ".!=null", "D", ".[0]>=true")
	for s, want := range map[string]api.Filter{
		"A": a, "(A)": a, "((A))": a, "(((D)))": d,
		"A and B": and(a, b), "A or B": or(a, b), "(A and B)": and(a, b), "(A)or(B)": or(a, b), "((A)and(B))": and(a, b),
		"A and B and C": and(and(a, b), c), "A or B or C": or(or(a, b), c), "A and B and C and D": and(and(and(a, b), c), d), "A or B or C or D": or(or(or(a, b), c), d),
		"A and (B and C)": and(a, and(b, c)), "A or (B or C)": or(a, or(b, c)), "(A and B) and C": and(and(a, b), c), "A and (B and C) and D": and(and(a, and(b, c)), d),
		"A and B or C": or(and(a, b), c), "A or B and C": or(a, and(b, c)), "A and B or C and D": or(and(a, b), and(c, d)), "A or B and C or D": or(or(a, and(b, c)), d), "A or B or C and D": or(or(a, b), and(c, d)), "A and B and C or D": or(and(and(a, b), c), d), "A or B and C and D": or(a, and(and(b, c), d)), "A and B or C or D": or(or(and(a, b), c), d),
		"(A or B) and C": and(or(a, b), c), "A and (B or C)": and(a, or(b, c)), "(A or B) and (C or D)": and(or(a, b), or(c, d)), "(A and B) or (C and D)": or(and(a, b), and(c, d)),
		"(A|not)": not(a), "((A|not)|not)": not(not(a)), "((A)|not)": not(a), "((A|not))": not(a), "(((A|not)|not)|not)": not(not(not(a))),
		"(A and B|not)": not(and(a, b)), "(A or B and C | not)": not(or(a, and(b, c))), "(A|not) and B": and(not(a), b), "A or (B|not) or C": or(or(a, not(b)), c), "((A or B|not) and C|not)": not(and(not(or(a, b)), c)), "((A and B) | not) or (C | not)": or(not(and(a, b)), not(c)),
	} {
		tells(t, "select("+written.Replace(s)+")", where(want))
		tells(t, "map(.x | select( "+written.Replace(s)+" ) | .y)", does(api.OMap, pipe(field("x"), where(want), field("y"))))
	}
}

// TestNumbers is P9.1: numbers in brackets from 0 to MaxPart, however they are written.
func TestNumbers(t *testing.T) {
	for s, n := range map[string]int{
		"0": 0, "-0": 0, "0.0": 0, "-0.00": 0, "0e5": 0, "0e-5": 0, "0E+0": 0, "1": 1, "7": 7, "10": 10, "99": 99, "100": 100, "101": 101, "123456": 123456, "999999": 999999, "1000000": 1000000,
		"1.0": 1, "10.00": 10, "1e0": 1, "1e2": 100, "1E+2": 100, "10e-1": 1, "1.5e1": 15, "0.1e1": 1, "12.5e3": 12500, "1e6": 1000000, "0.000001e12": 1000000, "1000000.0": 1000000, "10000000e-1": 1000000, "9.99999e5": 999999, "1000000000000e-12": 1,
	} {
		tells(t, ".["+s+"]", part(n))
		tells(t, ".["+s+":]", tail(n))
		tells(t, ".a["+s+"]["+s+":]", pipe(field("a"), part(n), tail(n)))
		tells(t, "del(.["+s+"])", says(api.ODel, ".["+strconv.Itoa(n)+"]"))
		tells(t, "select(.a["+s+"]==1)", where(compare(".a["+strconv.Itoa(n)+"]", api.Eq, number("1"))))
	}
	for _, n := range []int{2, 9, 20, 200, 1001, 99999, 100000, 500000} {
		tells(t, ".["+strconv.Itoa(n)+"]", part(n))
		tells(t, ".["+strconv.Itoa(n)+":]", tail(n))
	}
}

// TestBlanks is P9.1: blanks between tokens count for nothing.
func TestBlanks(t *testing.T) {
	chosen := and(compare(".a[0].b", api.Ge, api.Node{Kind: api.Num, S: "15", E: -1, Neg: true}), not(or(compare(".", api.Ne, str("x")), compare(".c", api.Lt, api.Node{}))))
	shown := object(named("x", pipe(field("y"), tail(1))), named("y", list(pipe(id(), part(2)), says(api.OGroup, "."), pipe(entries(field("k"))...))))
	want := pipe(does(api.OMap, pipe(where(chosen), shown)), does(api.ORev))
	tokens := strings.Fields(`map ( select ( .a [ 0 ] .b >= -1.5 and ( . != "x" or .c < null | not ) ) | { x : .y [ 1 : ] , "y" : [ ( . | . [ 2 ] ) , group_by ( . ) , with_entries ( .k ) ] } ) | reverse`)
	for _, blank := range []string{" ", "  ", "\t", "\n", "\r", "\r\n", " \t\n\r "} {
		tells(t, strings.Join(tokens, blank), want)
		tells(t, blank+strings.Join(tokens, blank)+blank, want)
	}
	tells(t, `map(select(.a[0].b>=-1.5and(.!="x"or.c<null|not))|{x:.y[1:],"y":[(.|.[2]),group_by(.),with_entries(.k)]})|reverse`, want)
}
