package path_test

import (
	"slices"
	"strings"
	"testing"

	"loupe/api"
	"loupe/path"
	"loupe/text"
	"loupe/val"
)

func field(name string) api.Step { return api.Step{Name: name} }
func part(n int) api.Step        { return api.Step{Part: true, N: n} }

// v is a text's value.
func v(t *testing.T, s string) api.Val {
	t.Helper()
	x, at, err := text.Parse(s)
	if err != api.OK || !val.Right(x) {
		t.Fatalf("%s: %d at %d", s, err, at)
	}
	return x
}

// p is a text's path.
func p(t *testing.T, s string) api.Path {
	t.Helper()
	steps, at, err := path.Read(s)
	if err != api.OK || at != 0 {
		t.Fatalf("%s: %d at %d", s, err, at)
	}
	return steps
}

// alike are as many steps that are the same.
func alike(many int, step api.Step) api.Path {
	return slices.Repeat(api.Path{step}, many)
}

// TestRight is P6.1: which steps are right, and how many.
func TestRight(t *testing.T) {
	for _, steps := range []api.Path{
		nil, {},
		{field("a")}, {field("")}, {field("b c")}, {field("1")}, {field("é\ufffd\x00")},
		{part(0)}, {part(1)}, {part(api.MaxPart)},
		{field("a"), part(0), part(12), field("")},
		alike(api.MaxSteps, field("a")), alike(api.MaxSteps, part(0)),
	} {
		if !path.Right(steps) {
			t.Errorf("not right: %+v", steps)
		}
	}
	for _, step := range []api.Step{
		{Part: true, N: -1}, {Part: true, N: api.MaxPart + 1}, {Part: true, Name: "a"}, {Part: true, Name: "a", N: 1},
		{N: 1}, {N: -1}, {Name: "a", N: 1}, {Name: "\xff"}, {Name: "a\xc3"}, {Name: "\xed\xa0\x80"},
	} {
		for _, steps := range []api.Path{{step}, {field("a"), step}, {step, part(0)}, append(alike(api.MaxSteps-1, part(3)), step)} {
			if path.Right(steps) {
				t.Errorf("right: %+v", steps)
			}
		}
	}
	for _, step := range []api.Step{field("a"), part(0)} {
		for _, many := range []int{api.MaxSteps + 1, 2 * api.MaxSteps, 1000} {
			if path.Right(alike(many, step)) {
				t.Errorf("right: %d times %+v", many, step)
			}
		}
	}
}

// TestTexts is P6.1: paths and their texts, each read as the other and written as the other.
func TestTexts(t *testing.T) {
	for _, c := range []struct {
		s     string
		steps api.Path
	}{
		{`.`, nil},
		{`.a`, api.Path{field("a")}},
		{`._`, api.Path{field("_")}},
		{`.AZaz_09`, api.Path{field("AZaz_09")}},
		{`.a.b_1`, api.Path{field("a"), field("b_1")}},
		{`.""`, api.Path{field("")}},
		{`."".""`, api.Path{field(""), field("")}},
		{`."1a"`, api.Path{field("1a")}},
		{`."0"`, api.Path{field("0")}},
		{`."b c"`, api.Path{field("b c")}},
		{`."a."`, api.Path{field("a.")}},
		{`."[0]"`, api.Path{field("[0]")}},
		{`."a-b".c`, api.Path{field("a-b"), field("c")}},
		{`."é"`, api.Path{field("é")}},
		{`."aé"."𝄞"`, api.Path{field("aé"), field("𝄞")}},
		{`."a\"b"."\\"`, api.Path{field(`a"b`), field(`\`)}},
		{`."\n\t/\u0000\u001f` + "\x7f" + `"`, api.Path{field("\n\t/\x00\x1f\x7f")}},
		{`.[0]`, api.Path{part(0)}},
		{`.[0][0]`, api.Path{part(0), part(0)}},
		{`.[10].a`, api.Path{part(10), field("a")}},
		{`.[999999][1000000]`, api.Path{part(999999), part(api.MaxPart)}},
		{`.[1000000]`, api.Path{part(api.MaxPart)}},
		{`.a[0]."b c"`, api.Path{field("a"), part(0), field("b c")}},
		{`.a[0][12]."é"[3]`, api.Path{field("a"), part(0), part(12), field("é"), part(3)}},
		{strings.Repeat(".a", api.MaxSteps), alike(api.MaxSteps, field("a"))},
		{"." + strings.Repeat("[7]", api.MaxSteps), alike(api.MaxSteps, part(7))},
		{strings.Repeat(`."[.]"`, api.MaxSteps), alike(api.MaxSteps, field("[.]"))},
	} {
		if s := path.Text(c.steps); s != c.s {
			t.Errorf("%+v: %s, not %s", c.steps, s, c.s)
		}
		steps, at, err := path.Read(c.s)
		if err != api.OK || at != 0 || !slices.Equal(steps, c.steps) || !path.Right(steps) {
			t.Errorf("%s: %+v, %d at %d", c.s, steps, err, at)
		}
	}
}

// TestReadNone is P6.1: texts of no path, and the place of the step that is none, or one too many.
func TestReadNone(t *testing.T) {
	full := strings.Repeat(".a", api.MaxSteps)
	for s, want := range map[string]int{
		// It does not begin with the mark.
		"": 0, "a": 0, " .": 0, " .a": 0, "[0]": 0, `"a"`: 0, "a.b": 0, "\x00": 0, "\xff": 0, "é": 0,
		// What is behind the mark is no step.
		"..": 0, "..a": 0, ". ": 0, ". a": 0, ".\n": 0, ".é": 0, ".\xff": 0, ".1": 0, ".1a": 0, ".-": 0, ".?": 0, ".]": 0, ".a.": 2, ".a..b": 2, ".a.1": 2, ".a.é": 2, ".[0].": 4,
		// A number that is none, has noughts ahead, or is too large.
		".[": 0, ".[]": 0, ".[a]": 0, ".[-1]": 0, ".[+1]": 0, ".[ 1]": 0, ".[1 ]": 0, ".[1.0]": 0, ".[1e1]": 0, ".[0x1]": 0, ".[1_0]": 0, `.["a"]`: 0, ".[:1]": 0, ".[1:]": 0, ".[١]": 0,
		".[00]": 0, ".[01]": 0, ".[-0]": 0, ".[1000001]": 0, ".[01000000]": 0, ".[2147483648]": 0, ".[4294967296]": 0, ".[9223372036854775807]": 0, ".[18446744073709551616]": 0, ".[18446744073709551617]": 0, ".[-9223372036854775809]": 0, ".[" + strings.Repeat("9", 1000) + "]": 0,
		".a[]": 2, ".a[b]": 2, ".a[-1]": 2, ".a[01]": 2, ".a[1000001]": 2, ".[0][00]": 4, ".a[18446744073709551616]": 2,
		// A bracket that is not closed, or is by another one.
		".[0": 0, ".[0)": 0, ".[0}": 0, ".a[0": 2, ".a[": 2, ".a[0[0]": 2, ".[0[0]]": 0, ".[0][1": 4,
		// A later step to a part has no mark of its own.
		".a.[0]": 2, ".[0].[0]": 4, ".[[0]]": 0, "..[0]": 0,
		// A word that is quoted.
		`."a"`: 0, `."_"`: 0, `."Z9"`: 0, `.b."a"`: 2, `.[0]."a".b`: 4,
		// A name that is quoted otherwise.
		`."a\/b"`: 0, `."\u0020"`: 0, `."b\u0020c"`: 0, `."\u000a"`: 0, `."\u001F"`: 0, `."\u00e9"`: 0, `."\ud834\udd1e"`: 0, `."\u0022"`: 0, `."\u007f"`: 0, `.a."\/"`: 2, `.'b c'`: 0,
		// A string that does not end, or is none.
		`."`: 0, `."b c`: 0, `."b c\"`: 0, `.a."b c`: 2, `.a."`: 2, ".\"b\nc\"": 0, ".\"b \xff\"": 0, `."b \x"`: 0, `."b \ud834"`: 0, ".a.\"b \xed\xa0\x80\"": 2,
		// Something behind the last step.
		".a ": 2, ".a b": 2, ".a,": 2, ".aé": 2, ".a-b": 2, ".a?": 2, ".a]": 2, ".a\x00": 2, ".a\xff": 2, `.a"b c"`: 2, `.a"b"`: 2, ".[0]a": 4, ".[0]]": 4, ".[0] ": 4, ".[0]1": 4, `.[0]"b c"`: 4, `."b c"d`: 6, `."b c" `: 6, `."b c""d e"`: 6,
		// One step too many, whatever it is, and none there; the one ahead that is none is told first.
		full + ".a": 2 * api.MaxSteps, full + "[0]": 2 * api.MaxSteps, full + ".a.a": 2 * api.MaxSteps, full + `."b c"`: 2 * api.MaxSteps, full + " ": 2 * api.MaxSteps, full + ".": 2 * api.MaxSteps,
		"." + strings.Repeat("[0]", api.MaxSteps+1): 1 + 3*api.MaxSteps, "." + strings.Repeat("[10]", 1000): 1 + 4*api.MaxSteps,
		".a.1" + full: 2,
	} {
		steps, at, err := path.Read(s)
		if at != want || err != api.ErrForm || len(steps) != 0 {
			t.Errorf("%q: %+v, %d at %d, not at %d", s, steps, err, at, want)
		}
	}
}

const whole = `{"":{"":[]},"1":"x","a":[1,{"b":2,"c":[[-3]]},[]],"b c":{"d":{}},"c":null,"é":true}`

// TestGet is P6.1: what stands there, as a value of its own.
func TestGet(t *testing.T) {
	x := v(t, whole)
	for s, want := range map[string]string{
		`.`:             whole,
		`.a`:            `[1,{"b":2,"c":[[-3]]},[]]`,
		`.a[0]`:         `1`,
		`.a[1]`:         `{"b":2,"c":[[-3]]}`,
		`.a[1].b`:       `2`,
		`.a[1].c`:       `[[-3]]`,
		`.a[1].c[0]`:    `[-3]`,
		`.a[1].c[0][0]`: `-3`,
		`.a[2]`:         `[]`,
		`.""`:           `{"":[]}`,
		`."".""`:        `[]`,
		`."1"`:          `"x"`,
		`."b c"`:        `{"d":{}}`,
		`."b c".d`:      `{}`,
		`.c`:            `null`,
		`."é"`:          `true`,
	} {
		got, err := path.Get(p(t, s), x)
		if err != api.OK || !slices.Equal(got, v(t, want)) {
			t.Errorf("%s: %+v, %d, not %s", s, got, err, want)
		}
	}
	for _, s := range []string{"null", "false", "true", "0", `"x"`, "[]", "{}"} {
		if got, err := path.Get(nil, v(t, s)); err != api.OK || !slices.Equal(got, v(t, s)) {
			t.Errorf("%s: %+v, %d", s, got, err)
		}
	}
}

// TestSet is P6.1: all but what stood there is as it was, and a field keeps its name.
func TestSet(t *testing.T) {
	x := v(t, `{"a":[1,{"b":2,"c":3},[]],"b":{"a":{}}}`)
	for _, c := range []struct{ s, y, want string }{
		{`.`, `7`, `7`},
		{`.`, `{"a":[null]}`, `{"a":[null]}`},
		{`.a`, `7`, `{"a":7,"b":{"a":{}}}`},
		{`.b`, `[1,[2]]`, `{"a":[1,{"b":2,"c":3},[]],"b":[1,[2]]}`},
		{`.a[0]`, `{"z":null}`, `{"a":[{"z":null},{"b":2,"c":3},[]],"b":{"a":{}}}`},
		{`.a[1]`, `"x"`, `{"a":[1,"x",[]],"b":{"a":{}}}`},
		{`.a[1].b`, `{}`, `{"a":[1,{"b":{},"c":3},[]],"b":{"a":{}}}`},
		{`.a[1].c`, `[]`, `{"a":[1,{"b":2,"c":[]},[]],"b":{"a":{}}}`},
		{`.a[2]`, `[[],[]]`, `{"a":[1,{"b":2,"c":3},[[],[]]],"b":{"a":{}}}`},
		{`.b.a`, `{"b":{"a":false}}`, `{"a":[1,{"b":2,"c":3},[]],"b":{"a":{"b":{"a":false}}}}`},
	} {
		got, err := path.Set(p(t, c.s), x, v(t, c.y))
		if err != api.OK || !slices.Equal(got, v(t, c.want)) {
			t.Errorf("%s, %s: %s, %d, not %s", c.s, c.y, text.Compact(got), err, c.want)
		}
	}
	for _, s := range []string{"null", "0", "[1]", `{"a":1}`} {
		if got, err := path.Set(nil, v(t, s), x); err != api.OK || !slices.Equal(got, x) {
			t.Errorf("%s: %+v, %d", s, got, err)
		}
	}
}

// TestErrors is P6.1: what Get and Set tell, of the first step that is not there.
func TestErrors(t *testing.T) {
	x := v(t, whole)
	for s, want := range map[string]api.Errno{
		// No such field, at the first step and later; none behind it counts.
		`.x`: api.ErrNone, `.A`: api.ErrNone, `."a "`: api.ErrNone, `."a\u0000"`: api.ErrNone, `.z`: api.ErrNone, `.a[1].a`: api.ErrNone, `.a[1].d`: api.ErrNone, `."b c".d.e`: api.ErrNone, `.x.y`: api.ErrNone, `.x[0]`: api.ErrNone, `."b c".a[0]`: api.ErrNone,
		// No such part: the list's length, and far beyond.
		`.a[3]`: api.ErrNone, `.a[4]`: api.ErrNone, `.a[1000000]`: api.ErrNone, `.a[2][0]`: api.ErrNone, `.a[1].c[1]`: api.ErrNone, `.a[1].c[0][1]`: api.ErrNone, `.a[3].b`: api.ErrNone, `.a[2][0].b`: api.ErrNone,
		// A field of what is no object.
		`.a.b`: api.ErrType, `.a.""`: api.ErrType, `.a[0].b`: api.ErrType, `.a[2].b`: api.ErrType, `."1".x`: api.ErrType, `.c.c`: api.ErrType, `."é".a`: api.ErrType, `.a.b[0]`: api.ErrType, `.a[1].b.b`: api.ErrType,
		// A part of what is no list.
		`.[0]`: api.ErrType, `.[0][0]`: api.ErrType, `.[0].a`: api.ErrType, `.a[0][0]`: api.ErrType, `.a[1][0]`: api.ErrType, `.""[0]`: api.ErrType, `."1"[0]`: api.ErrType, `.c[0]`: api.ErrType, `."é"[0]`: api.ErrType, `.a[1].c[0][0][0]`: api.ErrType,
	} {
		refused(t, s, x, want)
	}
	for _, s := range []string{"null", "false", "true", "0", "12", `""`, `"a"`} {
		refused(t, ".a", v(t, s), api.ErrType)
		refused(t, ".[0]", v(t, s), api.ErrType)
		refused(t, ".a[0]", v(t, s), api.ErrType)
	}
	refused(t, ".a", v(t, "{}"), api.ErrNone)
	refused(t, ".[0]", v(t, "[]"), api.ErrNone)
	refused(t, ".a", v(t, "[]"), api.ErrType)
	refused(t, ".[0]", v(t, "{}"), api.ErrType)
	refused(t, ".[2]", v(t, "[[7,8,9],1]"), api.ErrNone)
	refused(t, ".b", v(t, `[{"b":1}]`), api.ErrType)
	refused(t, ".b", v(t, `{"a":{"b":1},"c":{"b":1}}`), api.ErrNone)
}

// refused asks for an error of Get and of Set, and nothing beside it.
func refused(t *testing.T, s string, x api.Val, want api.Errno) {
	t.Helper()
	steps := p(t, s)
	if got, err := path.Get(steps, x); err != want || len(got) != 0 {
		t.Errorf("get %s of %s: %+v, %d, not %d", s, text.Compact(x), got, err, want)
	}
	if got, err := path.Set(steps, x, x); err != want || len(got) != 0 {
		t.Errorf("set %s of %s: %+v, %d, not %d", s, text.Compact(x), got, err, want)
	}
}

// TestApart is P6.1: neither is the beginning of the other one.
func TestApart(t *testing.T) {
	for _, c := range []struct {
		a, b string
		want bool
	}{
		{`.`, `.`, false}, {`.`, `.a`, false}, {`.`, `.[0]`, false}, {`.`, `.a[0].b`, false},
		{`.a`, `.a`, false}, {`.a`, `.a.b`, false}, {`.a`, `.a[0]`, false}, {`.[1]`, `.[1].a.b`, false}, {`.a[1].b`, `.a[1].b`, false},
		{`.a`, `.b`, true}, {`.a`, `.A`, true}, {`.a`, `.ab`, true}, {`.""`, `.a`, true}, {`.[0]`, `.[1]`, true}, {`.[1]`, `.[10]`, true},
		{`.a`, `.b.a`, true}, {`.a.b`, `.a.c`, true}, {`.a.b`, `.b.b`, true}, {`.a[0]`, `.a[1]`, true}, {`.a[0].b`, `.a[1]`, true}, {`.a.b.c`, `.a.d`, true},
		// What no one value holds both of is apart all the same.
		{`.""`, `.[0]`, true}, {`."0"`, `.[0]`, true}, {`.a.b`, `.a[0]`, true}, {`.a[0]`, `.a.b.c`, true},
	} {
		a, b := p(t, c.a), p(t, c.b)
		if path.Apart(a, b) != c.want || path.Apart(b, a) != c.want {
			t.Errorf("%s and %s: not %v", c.a, c.b, c.want)
		}
	}
	for i := range api.MaxSteps {
		a := alike(api.MaxSteps, part(3))
		b := slices.Clone(a)
		if path.Apart(a, b[:i]) || path.Apart(b[:i], a) {
			t.Error("apart from its beginning:", i)
		}
		b[i] = part(4)
		if !path.Apart(a, b) || !path.Apart(a, b[:i+1]) || !path.Apart(b[:i+1], a) {
			t.Error("not apart:", i)
		}
	}
}
