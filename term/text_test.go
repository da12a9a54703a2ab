package term_test

import (
	"strings"
	"testing"

	"loupe/api"
	"loupe/term"
)

// texted are filters and their texts, by hand.
func texted() map[string]api.Filter {
	a, b, c := field("a"), field("b"), field("c")
	pipe, both := does(api.OPipe, a, b), does(api.OPipe, a, does(api.OPipe, b, c))
	return map[string]api.Filter{
		".":            id(),
		"to_entries":   does(api.OToE),
		"from_entries": does(api.OFromE),
		"reverse":      does(api.ORev),

		".a": a, "._": field("_"), ".AZaz_09": field("AZaz_09"), ".map": field("map"), ".not": field("not"), `.""`: field(""), `."9a"`: field("9a"), `."b c"`: field("b c"), `."."`: field("."), `."[0]"`: field("[0]"), `."é"`: field("é"), `."a\"\\/\n\u0000"`: field("a\"\\/\n\x00"), `."𝄞"`: field("𝄞"),

		".[0]": counts(api.OPart, 0), ".[7]": counts(api.OPart, 7), ".[10]": counts(api.OPart, 10), ".[1000000]": counts(api.OPart, api.MaxPart),
		".[0:]": counts(api.OTail, 0), ".[12:]": counts(api.OTail, 12), ".[1000000:]": counts(api.OTail, api.MaxPart),

		".a | .b": pipe, ".a | .b | .c": both, ". | .": does(api.OPipe, id(), id()), "map(.) | .[0] | reverse": does(api.OPipe, does(api.OMap, id()), does(api.OPipe, counts(api.OPart, 0), does(api.ORev))),

		"map(.)": does(api.OMap, id()), "map(.a | .b)": does(api.OMap, pipe), "map(map(.a))": does(api.OMap, does(api.OMap, a)), "map({})": does(api.OMap, does(api.OObj)), "map(select(.a == 1) | .b)": does(api.OMap, does(api.OPipe, where(one()), b)),
		"map_values(.)": does(api.OVals, id()), "map_values(.a | .b | .c)": does(api.OVals, both), "map_values(map([]))": does(api.OVals, does(api.OMap, does(api.OTup))),
		"select(.a == 1)": where(one()),

		"{}": does(api.OObj), "{a: .}": does(api.OObj, named("a", id())), "{b: .a, a: .b}": does(api.OObj, named("b", a), named("a", b)), "{a: (.a | .b)}": does(api.OObj, named("a", pipe)), "{a: (.a | .b | .c), b: .}": does(api.OObj, named("a", both), named("b", id())), "{a: {}, b: []}": does(api.OObj, named("a", does(api.OObj)), named("b", does(api.OTup))), "{a: {a: (.a | .b)}}": does(api.OObj, named("a", does(api.OObj, named("a", pipe)))), "{a: map(.a | .b)}": does(api.OObj, named("a", does(api.OMap, pipe))), "{a: select(.a == 1)}": does(api.OObj, named("a", where(one()))),
		`{"": .}`: does(api.OObj, named("", id())), `{"9": ., "a b": .a, _9: .b, select: .c, "a.b": reverse}`: does(api.OObj, named("9", id()), named("a b", a), named("_9", b), named("select", c), named("a.b", does(api.ORev))), `{"é\"\\/\t\u001f": .}`: does(api.OObj, named("é\"\\/\t\x1f", id())),

		"[]": does(api.OTup), "[.]": does(api.OTup, id()), "[.a, .b, .c]": does(api.OTup, a, b, c), "[(.a | .b)]": does(api.OTup, pipe), "[., (.a | .b | .c), (.a | .b)]": does(api.OTup, id(), both, pipe), "[[], [[.]], {}]": does(api.OTup, does(api.OTup), does(api.OTup, does(api.OTup, id())), does(api.OObj)), "[map(.a | .b)]": does(api.OTup, does(api.OMap, pipe)), "[{a: (. | [(. | .)])}]": does(api.OTup, does(api.OObj, named("a", does(api.OPipe, id(), does(api.OTup, does(api.OPipe, id(), id())))))),

		"group_by(.)": says(api.OGroup, "."), "group_by(.a[0])": says(api.OGroup, ".a[0]"), "sort_by(.)": says(api.OSort, "."), `sort_by(."b c".d)`: says(api.OSort, `."b c".d`), "del(.)": says(api.ODel, "."), "del(.[3].a)": says(api.ODel, ".[3].a"),
		"to_entries | map({key: .key, value: .value}) | from_entries": does(api.OPipe, does(api.OToE), does(api.OPipe, does(api.OMap, does(api.OObj, named("key", field("key")), named("value", field("value")))), does(api.OFromE))),
	}
}

// conditions are conditions and their texts, by hand.
func conditions() map[string]api.Filter {
	not := func(c api.Filter) api.Filter { return does(api.PNot, c) }
	and := func(c, d api.Filter) api.Filter { return does(api.PAnd, c, d) }
	or := func(c, d api.Filter) api.Filter { return does(api.POr, c, d) }
	return map[string]api.Filter{
		".a == 1": one(), ".b < 2": two(), ". != null": three(),
		". == null": compare(".", api.Eq, api.Node{}), `."b c" <= false`: compare(`."b c"`, api.Le, api.Node{Kind: api.False}), ".[0] > true": compare(".[0]", api.Gt, api.Node{Kind: api.True}), `.a[1].b >= "x y"`: compare(".a[1].b", api.Ge, str("x y")),
		". == 0": compare(".", api.Eq, number("")), ". == -0.5": compare(".", api.Eq, api.Node{Kind: api.Num, S: "5", E: -1, Neg: true}), ". == 120": compare(".", api.Eq, api.Node{Kind: api.Num, S: "12", E: 1}), ". == 1e999": compare(".", api.Eq, api.Node{Kind: api.Num, S: "1", E: 999}), ". == 1e-1000": compare(".", api.Eq, api.Node{Kind: api.Num, S: "1", E: -1000}), `. == ""`: compare(".", api.Eq, str("")), `. == "a\"\\/\n\u0000é"`: compare(".", api.Eq, str("a\"\\/\n\x00é")), `. == " | not)"`: compare(".", api.Eq, str(" | not)")),

		".a == 1 and .b < 2": and(one(), two()), ".a == 1 or .b < 2": or(one(), two()), "(.a == 1 | not)": not(one()), "((.a == 1 | not) | not)": not(not(one())),
		"(.a == 1 and .b < 2) and . != null": and(and(one(), two()), three()), ".a == 1 and (.b < 2 and . != null)": and(one(), and(two(), three())), "(.a == 1 or .b < 2) and . != null": and(or(one(), two()), three()), ".a == 1 and (.b < 2 or . != null)": and(one(), or(two(), three())),
		"(.a == 1 or .b < 2) or . != null": or(or(one(), two()), three()), ".a == 1 or (.b < 2 or . != null)": or(one(), or(two(), three())), "(.a == 1 and .b < 2) or . != null": or(and(one(), two()), three()), ".a == 1 or (.b < 2 and . != null)": or(one(), and(two(), three())),
		"(.a == 1 and .b < 2 | not)": not(and(one(), two())), "(.a == 1 or .b < 2 | not)": not(or(one(), two())), "((.a == 1 or .b < 2) and . != null | not)": not(and(or(one(), two()), three())),
		"(.a == 1 | not) and (.b < 2 | not)": and(not(one()), not(two())), "(.a == 1 | not) or . != null": or(not(one()), three()), "((.a == 1 and .b < 2 | not) or . != null) and (. != null | not)": and(or(not(and(one(), two())), three()), not(three())),
	}
}

// TestTexts is P7.1: filters' texts.
func TestTexts(t *testing.T) {
	for want, f := range texted() {
		if s := term.Text(f); s != want || !term.Right(f) {
			t.Errorf("%s, not %s; right: %v", s, want, term.Right(f))
		}
	}
}

// TestConditionTexts is P7.1: a condition has its text on its own, and within a filter.
func TestConditionTexts(t *testing.T) {
	for want, c := range conditions() {
		if s := term.Text(c); s != want || term.Right(c) {
			t.Errorf("%s, not %s; right: %v", s, want, term.Right(c))
		}
		f := does(api.OMap, does(api.OPipe, where(c), id()))
		if s := term.Text(f); s != "map(select("+want+") | .)" || !term.Right(f) {
			t.Errorf("%s of %s; right: %v", s, want, term.Right(f))
		}
	}
}

// TestSigns is P7.1: how each sign is written.
func TestSigns(t *testing.T) {
	for n, sign := range strings.Fields("== != < <= > >=") {
		if s := term.Text(where(compare(".a[0]", n, number("1")))); s != "select(.a[0] "+sign+" 1)" {
			t.Errorf("%d: %s", n, s)
		}
	}
}

// TestPartsInBrackets is P7.1: of all parts of an object and a list a pipe alone stands in brackets; in other filters none does.
func TestPartsInBrackets(t *testing.T) {
	for s, f := range texted() {
		inner := s
		if f[0].Op == api.OPipe {
			inner = "(" + s + ")"
		}
		for want, outer := range map[string]api.Filter{
			"{a: " + inner + "}":                     does(api.OObj, named("a", f)),
			"{a: " + inner + `, " ": ` + inner + "}": does(api.OObj, named("a", f), named(" ", f)),
			"[" + inner + "]":                        does(api.OTup, f),
			"[., " + inner + ", .]":                  does(api.OTup, id(), f, id()),
			"map(" + s + ")":                         does(api.OMap, f),
			"map_values(" + s + ")":                  does(api.OVals, f),
			". | " + s:                               does(api.OPipe, id(), f),
		} {
			if got := term.Text(outer); got != want || !term.Right(outer) {
				t.Errorf("%s, not %s; right: %v", got, want, term.Right(outer))
			}
		}
		if f[0].Op == api.OPipe {
			continue
		}
		if got := term.Text(does(api.OPipe, f, id())); got != s+" | ." {
			t.Errorf("%s, not %s | .", got, s)
		}
	}
}
