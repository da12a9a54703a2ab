package parse_test

import (
	"strings"
	"testing"

	"loupe/api"
)

// forms holds of each text that it can't go on at that place.
func forms(t *testing.T, places map[string]int) {
	t.Helper()
	for s, place := range places {
		refuses(t, s, api.ErrForm, place)
		refuses(t, " "+s, api.ErrForm, place+1)
		if place < len(s) {
			// What stands behind has no part in it.
			refuses(t, s+" |", api.ErrForm, place)
			refuses(t, s+"\n) [.a,", api.ErrForm, place)
		} else {
			refuses(t, s+" \n", api.ErrForm, place+2)
		}
	}
}

// TestNoTokens is P9.1: without tokens lex's error is told, wherever it stands, whatever stands ahead.
func TestNoTokens(t *testing.T) {
	deep := strings.Repeat("[", api.MaxNest+1)
	for _, ahead := range []string{"", " ", ".a | ", "| ", ") ", "foo ", ".[1.5] ", "{a:.,a:.} ", deep, "map( "} {
		for s, place := range map[string]int{"$": 0, "é": 0, "=": 0, "! =": 0, "\xff": 0, `"\x"`: 1, `."\x"`: 2, "\"\n\"": 1, "-": 1, "01": 1, "1.": 2, "1e+": 3, "1-2": 1} {
			refuses(t, ahead+s, api.ErrForm, len(ahead)+place)
			refuses(t, ahead+s+" $", api.ErrForm, len(ahead)+place)
		}
		for _, s := range []string{`"`, `"a`, `."a`, `"a $`, `"|.a`} {
			refuses(t, ahead+s, api.ErrForm, len(ahead)+len(s))
		}
		for _, s := range []string{"1e1000", "-1e-1001", strings.Repeat("1", 101), "1e1000000"} {
			refuses(t, ahead+s, api.ErrLarge, len(ahead))
			refuses(t, ahead+s+" $ | |", api.ErrLarge, len(ahead))
		}
	}
	refuses(t, ".[1e1000]", api.ErrLarge, 2)
	refuses(t, "select(. == 1e1000)", api.ErrLarge, 12)
	refuses(t, "$ 1e1000", api.ErrForm, 0)
	refuses(t, "1e1000 $", api.ErrLarge, 0)
}

// TestWrongPrims is P9.1: where a filter must begin, or go on, and what must stand behind it.
func TestWrongPrims(t *testing.T) {
	forms(t, map[string]int{
		"": 0, "|": 0, ",": 0, ":": 0, ")": 0, "]": 0, "}": 0, "==": 0, "!=": 0, "<": 0, "<=": 0, ">": 0, ">=": 0, "?": 0, "1": 0, "-1.5": 0, `"a"`: 0, "[1]": 1, `["a"]`: 1,
		"foo": 0, "a": 0, "Map(.)": 0, "mapp(.)": 0, "_": 0, "not": 0, "and": 0, "or": 0, "null": 0, "true": 0, "false": 0, "map_value(.)": 0, "group": 0, "sort": 0, "length": 0, "keys": 0, "if": 0, "entries": 0, "REVERSE": 0,
		".a |": 4, ".a||.b": 3, "|.a": 0, ".a|)": 3, ".a|1": 3, ".a|foo": 3, ".a|.b|": 6, "(|.a)": 1, ".a|(.b|)": 7, "map(.a|)": 7,
		".a .": 3, "..": 1, "...": 1, ". .": 2, ".a..b": 2, ".a a": 3, ".a map(.)": 3, ".a (.b)": 3, ".a{}": 2, ".{": 1, ".(": 1, "reverse .": 8, "reverse reverse": 8, "reverse()": 7, "to_entries(.)": 10, "from_entries (.)": 13, "(.)(.)": 3, "[][": 3, "{}{}": 2, "[] []": 4, ". 1": 2, `.a "b"`: 3, ".a?": 2, ".a == 1": 3, ".a and .b": 3, ".a, .b": 2, ".a:.b": 2, ".a not": 3, "map(.) .": 7, ".a]": 2, ".a)": 2, ".a}": 2, "(.a))": 4, "[.a]]": 4, "{}}": 2, "map(.))": 6,
		"(": 1, "()": 1, "(.a": 3, "(.a]": 3, "(.a}": 3, "(.a,.b)": 3, "(.a:": 3, "((.a)": 5, "(1)": 1, "(.a .": 4, "(.a==1)": 3,
	})
}

// TestWrongWords is P9.1: what must stand behind a word.
func TestWrongWords(t *testing.T) {
	for _, word := range []string{"map", "map_values", "with_entries", "select", "group_by", "sort_by", "del"} {
		for s, place := range map[string]int{"": 0, ".a": 0, "|": 0, ")": 0, "[.]": 0, "{}": 0, "[": 0, ".": 0, " .a": 1, " (": 2, "(": 1, "()": 1, "(|": 1, "(1": 1, "(]": 1, "(}": 1, "(foo": 1, `("a"`: 1, "( )": 2} {
			refuses(t, word+s, api.ErrForm, len(word)+place)
			refuses(t, ".|"+word+s, api.ErrForm, 2+len(word)+place)
		}
	}
	forms(t, map[string]int{
		"map(.a": 6, "map(.a]": 6, "map(.a,.b)": 6, "map(.a:.b)": 6, "map .a": 4, "map(.a .)": 7, "map(foo)": 4, "map(.a==1)": 6, "map(.) (.)": 7, "map_values(.a|": 14, "with_entries(.a.": 15, "with_entries(.key": 17, "map(map(.)": 10, "map(select)": 10,
		"map(.[1:2])": 8, "map(.a[1:2])": 9, "map(with_entries)": 16, "map (.": 6, "map()": 4,
	})
}

// TestWrongLists is P9.1: brackets, their parts and entries.
func TestWrongLists(t *testing.T) {
	forms(t, map[string]int{
		"[": 1, "[,": 1, "[,.a]": 1, "[.a,]": 4, "[.a,,.b]": 4, "[.a": 3, "[.a)": 3, "[.a}": 3, "[.a .b": 6, "[.a|.b]": 3, "[.a:.b]": 3, "[1]": 1, "[0:]": 1, "[a]": 1, "[.a,1]": 4, "[.a,foo]": 4, "[.a,.b|.c]": 6, "[[.a]": 5, "[(.a|.b]": 7, "[.a]]": 4, "[.a,.b": 6, "[.a,": 4,
		"{": 1, "{,": 1, "{,a:.}": 1, "{.a}": 1, "{.}": 1, "{1:.}": 1, "{(.a):.}": 1, "{[": 1, "{{": 1, "{:": 1, "{)": 1, "{]": 1, `{."a":.}`: 1, "{==": 1, "{-1:.}": 1,
		"{a": 2, "{a}": 2, "{a,b}": 2, "{a .b}": 3, "{a=": 2, "{a a:.}": 3, `{"a"}`: 4, `{"a" "b":.}`: 5, "{a.b:.}": 2, "{a|.b}": 2, "{a==1}": 2, "{a[0]:.}": 2,
		"{a:": 3, "{a:}": 3, "{a:,b:.}": 3, "{a::.}": 3, "{a:1}": 3, `{a:"b"}`: 3, "{a:b}": 3, "{a:null}": 3, "{a:)": 3,
		"{a:.b": 5, "{a:.b)": 5, "{a:.b]": 5, "{a:.b|.c}": 5, "{a:.b:.c}": 5, "{a:.b .c:.}": 8, "{a:.b c:.}": 6, "{a:.b,": 6, "{a:.b,}": 6, "{a:.b,,c:.}": 6, "{a:.b,.c:.}": 6, "{a:.b,1:.}": 6, "{a:.b,(": 6, "{a:.b,c}": 7, "{a:.b,c:}": 8, "{a:.b}}": 6, "{a:.b} {": 7, "{a:{b:.}": 8, "{a:(.b|.c}": 9, "{a:.b,c:.d": 10,
	})
	// A list's end behind a name is told by what stands there, `=` alone is no token.
	refuses(t, "{a=.}", api.ErrForm, 2)
}

// TestKinds is P9.1: a field or a string that says what a mark or a word says stands for neither.
func TestKinds(t *testing.T) {
	forms(t, map[string]int{
		`.a "|" .b`: 3, `"." .a`: 0, `"." [0]`: 0, `map "(" . ")"`: 4, `map(. ")"`: 6, `map."("`: 3, `"map"(.)`: 0, `.map(.)`: 4, `"reverse"`: 0, `.select(.a==1)`: 7, `"del"(.)`: 0,
		`"[" .a "]"`: 0, `[.a "," .b]`: 4, `[.a "]"`: 4, `["]"`: 1, `{"}"`: 4, `{a ":" .}`: 3, `{a .":" .}`: 3, `{a:. "," b:.}`: 5, `{a:. "}"`: 5, `."[" 0 "]"`: 5, `. "[" 0 "]"`: 2, `.a "[" 0]`: 3, `.[0 ":"]`: 4, `.[0 "]"`: 4, `.["0"]`: 2,
		`select(.a "==" 1)`: 10, `select(.a ."<" 1)`: 15, `select("." == 1)`: 7, `select(.a==.null)`: 11, `select(.a==.true)`: 11, `select(."false"==.false)`: 17, `select(.a==1 "and" .b==1)`: 13, `select(.a==1 .and .b==1)`: 13, `select(.a==1 ."or" .b==1)`: 13, `select((.a==1|"not"))`: 14, `select((.a==1|.not))`: 14, `select((.a==1 "|" not))`: 14, `select("(" .a==1 ")")`: 7, `del("." "[" 0 "]")`: 4, `del(. "[" 0 "]")`: 6, `del(.[0 "]")`: 8,
	})
	tells(t, `."|" ."." ."("."[".":"`, pipe(field("|"), field("."), field("("), field("["), field(":")))
	tells(t, `{"|": ."}", "}": ., ":": .":"}`, object(named("|", field("}")), named("}", id()), named(":", field(":"))))
	tells(t, `select(."==" == "==" and .and == "and" or .or < "null")`, where(or(and(compare(`."=="`, api.Eq, str("==")), compare(".and", api.Eq, str("and"))), compare(".or", api.Lt, str("null")))))
	tells(t, `del(."[".map."]")`, says(api.ODel, `."[".map."]"`))
}

// TestNameTwice is P9.1: no entry has a name that one ahead of it has, however both are written.
func TestNameTwice(t *testing.T) {
	forms(t, map[string]int{
		"{a:.b,a:.c}": 6, "{a:.,b:.,a:.}": 9, "{a:.,b:.,b:.}": 9, `{a:.,"a":.}`: 5, `{"a":.,a:.}`: 7, `{"a":.,"a":.}`: 7, `{a:.,"\u0061":.}`: 5, `{"\u0061":.,a:.}`: 12, `{"é":.,"\u00E9":.}`: 8, `{"":.,"":.}`: 6, `{"/":.,"\/":.}`: 7, "{a:.,a": 5, "{a:.,a}": 5, "{a:.,a,": 5, "{a:.,a a": 5, "{map:.,map:.}": 7, "{not:.,not(": 7,
		"{a:{a:.},a:.}": 9, "{x:{a:.,a:.}}": 8, "{a:[{a:.,b:.}],b:{a:.},a:.}": 23, "{a:{b:.},b:{b:.,c:.,b:.}}": 20, "map({a:.,a:.})": 9, "{a: .b , a : .c}": 9, "[{a:.},{a:.,a:.}]": 12,
	})
}

// TestWrongSuffixes is P9.1: what stands in a suffix's brackets.
func TestWrongSuffixes(t *testing.T) {
	for ahead, prim := range map[string]int{".": 1, ".a": 2, "(.)": 3, "[]": 2, "{}": 2, "reverse": 7, "map(.)": 6, ".[0]": 4, ".a.b": 4, "del(.)": 6} {
		for s, place := range map[string]int{
			"[": 1, "[]": 1, "[a]": 1, "[.a]": 1, "[.]": 1, `["a"]`: 1, "[:]": 1, "[:1]": 1, "[[": 1, "[(": 1, "[{": 1, "[-1]": 1, "[-1:]": 1, "[1.5]": 1, "[1.5:]": 1, "[0.1]": 1, "[1e-1]": 1, "[15e-1]": 1, "[-0.5]": 1, "[1e-1000]": 1, "[1000001]": 1, "[1000001:]": 1, "[1e7]": 1, "[-1000000]": 1, "[1000000.5]": 1, "[1e999]": 1, "[10000000]": 1, "[9223372036854775807]": 1, "[9223372036854775808]": 1, "[18446744073709551616]": 1, "[18446744073709551617]": 1, "[4294967296]": 1, "[4294967297:]": 1, "[null]": 1,
			"[1": 2, "[1)": 2, "[1}": 2, "[1,2]": 2, "[1 2]": 3, "[1|": 2, "[1.5": 1, "[1[": 2, "[1.": 3, "[1 .a]": 3, "[1 a]": 3, "[1==": 2, "[1?": 2,
			"[1:": 3, "[1:2]": 3, "[1:-1]": 3, "[1::]": 3, "[1:)": 3, "[1:.a]": 3, "[1:a]": 3, "[1:[": 3,
			"[1]]": 3, "[1:]]": 4, "[1])": 3, "[1]1": 3, "[1].": 3, "[1] .": 4, "[1](": 3, "[1]{": 3, "[1]a": 3,
		} {
			refuses(t, ahead+s, api.ErrForm, prim+place)
			refuses(t, ".|"+ahead+s, api.ErrForm, prim+place+2)
		}
	}
}

// TestWrongPaths is P9.1: where a path must begin, and where it can't go on, wherever one stands.
func TestWrongPaths(t *testing.T) {
	for _, x := range []struct{ ahead, behind string }{{"group_by(", ")"}, {"sort_by(", ")"}, {"del(", ")"}, {"select(", "==1)"}, {"map(select((.a==1 or ", "<null)))"}} {
		for s, place := range map[string]int{
			"": 0, "a": 0, "[0]": 0, "[": 0, "1": 0, `"a"`: 0, "|": 0, "map(.)": 0, "reverse": 0, "not": 0, "null": 0, "{}": 0, "]": 0, "?": 0, ",": 0,
			"..": 1, ". .": 2, ". .a": 2, `. ."a"`: 2, ".a.": 2, ".a .": 3, ".a..b": 2, ".|.a": 1, ".a|.b": 2, ".a,.b": 2, ".a:": 2, ".a a": 3, ".a 1": 3, ".a{": 2, ".(": 1, ".a(.b)": 2, ".a?": 2, `.a "b"`: 3, ".a]": 2, ". 1": 2,
			".[": 2, ".[]": 2, ".[.a]": 2, ".[a]": 2, ".a[": 3, ".a[]": 3, `.["a"]`: 2, ".a[-1]": 3, ".[1.5]": 2, ".[1000001]": 2, ".a[1e7]": 3, ".[-1]": 2, ".a[18446744073709551616]": 3,
			".[0:]": 3, ".a[1:]": 4, ".[0:1]": 3, ".[0": 3, ".[0 1]": 4, ".[0)": 3, ".[0,1]": 3, ".[0].": 4, ".[0] .": 5, ".[0]..a": 4, ".[0].a[": 7, ".[0][1:]": 6, ".[0]]": 4,
		} {
			want := len(x.ahead) + place
			if place == len(s) {
				// There stands what would be behind the path.
				refuses(t, x.ahead+s, api.ErrForm, want)
			}
			refuses(t, x.ahead+s+x.behind, api.ErrForm, want)
		}
	}
	forms(t, map[string]int{"del(.a": 6, "del(.a|": 6, "del()": 4, "sort_by(a)": 8, "del(. .a)": 6, "group_by(.a.b": 13, "group_by(.a==1)": 11, "sort_by(.a,.b)": 10, "sort_by(.a) .": 12, "del(.a))": 7, "del(map(.))": 4, "del((.a))": 4})
}

// TestStepTooMany is P9.1: of paths at most MaxSteps steps; of suffixes as many as you like.
func TestStepTooMany(t *testing.T) {
	fields, parts := strings.Repeat(".a", api.MaxSteps), "."+strings.Repeat("[0]", api.MaxSteps)
	for _, x := range []struct{ ahead, behind string }{{"group_by(", ")"}, {"sort_by(", ")"}, {"del(", ")"}, {"select(", "==1)"}, {"select((.a==1|not) and ", ">=true)"}} {
		for _, path := range []string{fields, parts, fields[:2*api.MaxSteps-2] + "[7]", strings.Repeat(`."b c"[3]`, api.MaxSteps/2)} {
			for _, more := range []string{".a", "[0]", ` ."b c"`, " [0]", ".a.a", "[0][0]", "[", "[1.5]", "[]", "[:"} {
				blank := len(more) - len(strings.TrimLeft(more, " "))
				refuses(t, x.ahead+path+more+x.behind, api.ErrForm, len(x.ahead)+len(path)+blank)
			}
			refuses(t, x.ahead+path, api.ErrForm, len(x.ahead)+len(path))
			refuses(t, x.ahead+path+".", api.ErrForm, len(x.ahead)+len(path))
		}
	}
	want := make([]api.Filter, 0, 2*api.MaxSteps)
	for range 2 * api.MaxSteps {
		want = append(want, field("a"))
	}
	tells(t, fields+fields, pipe(want...))
	for i := range want {
		want[i] = part(0)
	}
	tells(t, parts+parts[1:], pipe(want...))
}

// TestWrongConditions is P9.1: each place of a condition at which something can't stand.
func TestWrongConditions(t *testing.T) {
	for s, place := range map[string]int{
		"": 0, ")": 0, "1==1": 0, `"a"==.a`: 0, "null": 0, "not": 0, "and": 0, "true": 0, "|": 0, "[.a]": 0, "{}": 0, "map(.)": 0, "select(.a==1)": 0, "==1": 0,
		".a": 2, ".a)": 2, ".a and .b": 3, ".a|not": 2, ".": 1, ".a .b)": 5, ".a : 1": 3, ".a:1": 2, ".a 1": 3, ".a not": 3, ".a ? 1": 3, ".a(": 2, ".a|.b==1": 2,
		".a==": 4, ".a==)": 4, ".a==.b": 4, ".a==.": 4, ".a==foo": 4, ".a==not": 4, ".a==[]": 4, ".a=={}": 4, ".a==(1)": 4, ".a== ==": 5, ".a==|": 4, ".a==and": 4, ".a==Null": 4, ".a==nulll": 4, ".a==TRUE": 4, ".a<.b": 3, ".a>=": 4, ".a!=.b": 4, ".a<=": 4, ".a>": 3, ".a<and": 3, ".a== .a": 5,
		".a==1|not": 5, ".a==1|": 5, ".a==1 1": 6, ".a==1==1": 5, ".a==1.a": 6, ".a==1 .a": 6, ".a==1,": 5, ".a==1 not": 6, ".a==1[0]": 5, ".a==null[0]": 8, `.a=="x".a`: 7, ".a==1]": 5, ".a==1}": 5, ".a==1 xor .b==1": 6, ".a==1 AND .b==1": 6, ".a==1 or": 8, ".a==1 and": 9, ".a==1 and or": 10, ".a==1 or and": 9, ".a==1 and and": 10, ".a==1 or )": 9, ".a==1 and .b": 12, ".a==1 or .b==1 and": 18, ".a==1 and not": 10, ".a==1 and 1": 10, ".a==1 or null": 9,
		"(": 1, "()": 1, "(1)": 1, "(.a)": 3, "(.a|.b)": 3, "(not)": 1, "(.a==1": 6, "(.a==1]": 6, "(.a==1,": 6, "(.a==1|": 7, "(.a==1|)": 7, "(.a==1|no)": 7, "(.a==1|.b)": 7, "(.a==1|and": 7, "(.a==1|not": 10, "(.a==1|not|not)": 10, "(.a==1|not and .b==1)": 11, "(.a==1|not()": 10, "(.a==1|null": 7, "(.a==1 not)": 7, "(.a==1)|not": 7, "(.a==1).b": 7, "(.a==1)==1": 7, "(.a==1)[0]": 7, "(.a==1)(": 7, "(.a==1)not": 7, "((.a==1)": 8, "((.a==1|not)|)": 13, "(.a==1) and": 11, "(.a==1) or (": 12, "(.a==1 or)": 9, "(.a)==1": 3, "(.)==1": 2,
	} {
		refuses(t, "select("+s, api.ErrForm, 7+place)
		refuses(t, "map( select( "+s, api.ErrForm, 13+place)
		if place < len(s) {
			refuses(t, "select("+s+")", api.ErrForm, 7+place)
			refuses(t, "select("+s+" == 1 or", api.ErrForm, 7+place)
		}
	}
	forms(t, map[string]int{"select": 6, "select .a==1": 7, "select(.a==1": 12, "select(.a==1))": 13, "select(.a==1)==1": 13, "select(.a==1) and": 14, "select(.a==1 and .b)": 19, "select(.)": 8, "select(.a)": 9, "select()": 7, "select[.a==1]": 6, "select({})": 7})
}

// nest is what a bracket that is counted stands in, and makes of what stands within; that is one post, or a filter.
type nest struct {
	ahead, behind string
	around        func(api.Filter) api.Filter
	filter        bool
}

// nesting are those of each kind, most of them with something else beside.
func nesting() []nest {
	return []nest{
		{"(", ")", func(f api.Filter) api.Filter { return f }, true},
		{"(.|", ")", func(f api.Filter) api.Filter { return does(api.OPipe, id(), f) }, true},
		{"[", "]", func(f api.Filter) api.Filter { return list(f) }, false},
		{"[.,", "]", func(f api.Filter) api.Filter { return list(id(), f) }, false},
		{"[.a[0],", ",{}]", func(f api.Filter) api.Filter { return list(pipe(field("a"), part(0)), f, object()) }, false},
		{"{a:", "}", func(f api.Filter) api.Filter { return object(named("a", f)) }, false},
		{`{"b":.,a:`, ",c:.}", func(f api.Filter) api.Filter { return object(named("b", id()), named("a", f), named("c", id())) }, false},
		{"map(", ")", func(f api.Filter) api.Filter { return does(api.OMap, f) }, true},
		{"map_values(", ")", func(f api.Filter) api.Filter { return does(api.OVals, f) }, true},
		{"with_entries(", ")", func(f api.Filter) api.Filter { return pipe(entries(f)...) }, true},
	}
}

// inner is what has one bracket that is counted, where that stands, and what it is.
type inner struct {
	s    string
	at   int
	want api.Filter
}

func innermost() []inner {
	chosen := where(compare(".a", api.Eq, number("1")))
	return []inner{{"(.)", 0, id()}, {"[]", 0, list()}, {"{}", 0, object()}, {"[.a]", 0, list(field("a"))}, {"{a:.}", 0, object(named("a", id()))}, {"map(.)", 3, does(api.OMap, id())}, {"map_values(.)", 10, does(api.OVals, id())}, {"with_entries(.)", 12, pipe(entries(id())...)}, {"select(.a==1)", 6, chosen}, {"group_by(.a)", 8, says(api.OGroup, ".a")}, {"sort_by(.)", 7, says(api.OSort, ".")}, {"del(.[0])", 3, says(api.ODel, ".[0]")}}
}

// TestNest is P9.1: each bracket that is counted is in less than MaxNest others.
func TestNest(t *testing.T) {
	for _, x := range nesting() {
		open, close := strings.Repeat(x.ahead, api.MaxNest-1), strings.Repeat(x.behind, api.MaxNest-1)
		for _, in := range innermost() {
			place := len(open) + len(x.ahead) + in.at
			refuses(t, open+x.ahead+in.s+x.behind+close, api.ErrDepth, place)
			refuses(t, open+x.ahead+in.s[:in.at+1], api.ErrDepth, place)
			want := in.want
			for range api.MaxNest - 1 {
				want = x.around(want)
			}
			tells(t, open+in.s+close, want)
		}
	}
	// Brackets beside one another are in none of these.
	tells(t, strings.Repeat("[]|", api.MaxNest)+"[]", pipe(repeated(list(), api.MaxNest+1)...))
	tells(t, "["+strings.Repeat("[],", 2*api.MaxNest)+"[]]", list(repeated(list(), 2*api.MaxNest+1)...))
}

func repeated(f api.Filter, many int) []api.Filter {
	l := make([]api.Filter, many)
	for i := range l {
		l[i] = f
	}
	return l
}

// TestNestConditions is P9.1: brackets of conditions are counted, and those around them.
func TestNestConditions(t *testing.T) {
	const c = ".a==1"
	for _, x := range []struct {
		ahead, behind string
		counted       int
		around        func(api.Filter) api.Filter
	}{
		{"select(", ")", 1, func(f api.Filter) api.Filter { return f }},
		{"[select(", ")]", 2, func(f api.Filter) api.Filter { return list(f) }},
		{"map(select(", "))", 2, func(f api.Filter) api.Filter { return does(api.OMap, f) }},
		{"[[{a:select(", ")}]]", 4, func(f api.Filter) api.Filter { return list(list(object(named("a", f)))) }},
	} {
		more := api.MaxNest - x.counted
		open := x.ahead + strings.Repeat("(", more)
		refuses(t, open+"("+c, api.ErrDepth, len(open))
		refuses(t, open+c+" and ("+c, api.ErrDepth, len(open+c+" and "))
		refuses(t, open+c+"|not) or ((", api.ErrDepth, len(open+c+"|not) or ("))
		want := compare(".a", api.Eq, number("1"))
		tells(t, open+c+strings.Repeat(")", more)+x.behind, x.around(where(want)))
		for range more {
			want = not(want)
		}
		tells(t, open+c+strings.Repeat("|not)", more)+x.behind, x.around(where(want)))
	}
}

// TestNestUncounted is P9.1: a suffix's brackets and a path's are not counted.
func TestNestUncounted(t *testing.T) {
	open, close := strings.Repeat("[", api.MaxNest), strings.Repeat("]", api.MaxNest)
	for s, want := range map[string]api.Filter{".[0]": part(0), ".[1:]": tail(1), ".a": field("a"), ".": id(), "reverse": does(api.ORev)} {
		for range api.MaxNest {
			want = list(want)
		}
		tells(t, open+s+close, want)
		tells(t, open+s+close+"[0]", pipe(want, part(0)))
	}
	open, close = open[1:], close[1:]
	for s, want := range map[string]api.Filter{"group_by(.[0][1])": says(api.OGroup, ".[0][1]"), "del(.a[0])": says(api.ODel, ".a[0]"), "select(.[0][1]==1)": where(compare(".[0][1]", api.Eq, number("1")))} {
		for range api.MaxNest - 1 {
			want = list(want)
		}
		tells(t, open+s+close, want)
	}
}

// TestNestElsewhere is P9.1: where a bracket can't stand at all, that is told, however deep it is; and so is what stands ahead of one that is in too many.
func TestNestElsewhere(t *testing.T) {
	for _, x := range nesting() {
		deep := strings.Repeat(x.ahead, api.MaxNest)
		wrong := map[string]int{"": 0, "|": 0, ".a(": 2, ".{": 1, ".[[": 2, ".[(": 2, ".[0](": 4, ".[1:][{": 6, "map": 3, "map[": 3, "map{": 3, "select[": 6, "del .": 4, "reverse(": 7, "foo(": 0, "1[": 0}
		large := map[string]int{"(": 0, "[": 0, "{": 0, "map(": 3, "select(": 6, "del(": 3, " \n[": 2, "map (": 4, "[)": 0, "(|": 0, "{1": 0, "[[[": 0, "((": 0}
		if x.filter {
			wrong[".|"], wrong[".|foo"] = 2, 2
			large[".|("], large[".a|["], large[".[0]|{"], large[".|map_values("], large[".|.|sort_by("] = 2, 3, 5, 12, 11
		} else {
			wrong[".|("], wrong[".a|["] = 1, 2
		}
		for s, place := range wrong {
			refuses(t, deep+s, api.ErrForm, len(deep)+place)
		}
		for s, place := range large {
			refuses(t, deep+s, api.ErrDepth, len(deep)+place)
			refuses(t, deep+s+" foo", api.ErrDepth, len(deep)+place)
		}
	}
}

// TestFirst is P9.1: of two faults in one text the first one is told, whatever their kinds.
func TestFirst(t *testing.T) {
	deep := strings.Repeat("(", api.MaxNest)
	for _, x := range []struct {
		s     string
		err   api.Errno
		place int
	}{
		{"foo | bar", api.ErrForm, 0}, {".a | bar | foo", api.ErrForm, 5}, {".[1.5] | .[2.5]", api.ErrForm, 2}, {".[0 .[1.5]", api.ErrForm, 4}, {".[1.5 .[0", api.ErrForm, 2},
		{"{a:.,a:.} | {b:.,b:.}", api.ErrForm, 5}, {"{a:.,a:foo}", api.ErrForm, 5}, {"{a:foo,a:.}", api.ErrForm, 3}, {"{a:.[-1],a:.}", api.ErrForm, 5}, {"{a:.,b:.,a:.[-1]}", api.ErrForm, 9},
		{"del(. .a) | foo", api.ErrForm, 6}, {"foo | del(. .a)", api.ErrForm, 0}, {"select(.a) | select(.b==.c)", api.ErrForm, 9},
		{deep + "( foo", api.ErrDepth, api.MaxNest}, {deep + "foo (", api.ErrForm, api.MaxNest}, {"foo" + deep + "(", api.ErrForm, 0}, {deep[1:] + ")((", api.ErrForm, api.MaxNest - 1}, {deep + ".a) foo (", api.ErrForm, api.MaxNest + 4}, {deep + ".a)|((", api.ErrDepth, api.MaxNest + 5}, {"{a:.,a:" + deep + "(", api.ErrForm, 5}, {"{a:" + deep + ".,a:.}", api.ErrDepth, 2 + api.MaxNest},
		{"foo $", api.ErrForm, 4}, {"foo 1e1000", api.ErrLarge, 4}, {deep + "( $", api.ErrForm, api.MaxNest + 2}, {deep + "( 1e1000", api.ErrLarge, api.MaxNest + 2}, {".[1.5] \"", api.ErrForm, 8},
	} {
		refuses(t, x.s, x.err, x.place)
	}
}
