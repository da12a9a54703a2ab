package val_test

import (
	"slices"
	"testing"

	"loupe/api"
	"loupe/val"
)

var (
	null = api.Val{{Kind: api.Null}}
	no   = api.Val{{Kind: api.False}}
	yes  = api.Val{{Kind: api.True}}
	none = api.Val{{Kind: api.Arr}}
	bare = api.Val{{Kind: api.Obj}}
)

func number(s string) api.Val { return api.Val{{Kind: api.Num, S: s}} }
func text(s string) api.Val   { return api.Val{{Kind: api.Str, S: s}} }

// flat are values without parts.
func flat() []api.Val {
	return []api.Val{null, no, yes, number(""), number("1"), {{Kind: api.Num, S: "15", Neg: true, E: -3}}, text(""), text("a"), text("\x00\"\\\n"), text("é€𝄞")}
}

// inner is {"a": [1, {"b": null}], "c": {}, "d": "x"}, node by node.
func inner() api.Val {
	return api.Val{
		{Kind: api.Obj, Many: 3},
		{Kind: api.Arr, Many: 2, Name: "a"}, {Kind: api.Num, S: "1"}, {Kind: api.Obj, Many: 1}, {Kind: api.Null, Name: "b"},
		{Kind: api.Obj, Name: "c"},
		{Kind: api.Str, S: "x", Name: "d"},
	}
}

// exactly holds rows against each other by what the language gives.
func exactly(t *testing.T, what string, got, want api.Val) {
	t.Helper()
	if !slices.Equal(got, want) {
		t.Errorf("%s: %+v, not %+v", what, got, want)
	}
	if !val.Right(got) {
		t.Errorf("%s: not right: %+v", what, got)
	}
}

func all(t *testing.T, what string, got, want []api.Val) {
	t.Helper()
	if len(got) != len(want) {
		t.Fatalf("%s: %d parts, not %d: %+v", what, len(got), len(want), got)
	}
	for i := range want {
		exactly(t, what, got[i], want[i])
	}
}

// TestParts is P2.1: parts, without their names, at one level only.
func TestParts(t *testing.T) {
	all(t, "an object", val.Parts(inner()), []api.Val{
		{{Kind: api.Arr, Many: 2}, {Kind: api.Num, S: "1"}, {Kind: api.Obj, Many: 1}, {Kind: api.Null, Name: "b"}},
		bare,
		text("x"),
	})
	all(t, "a list", val.Parts(api.Val{{Kind: api.Arr, Many: 3}, {Kind: api.Arr}, {Kind: api.Arr, Many: 1}, {Kind: api.Arr, Many: 1}, {Kind: api.True}, {Kind: api.Obj, Many: 1}, {Kind: api.Num, Name: ""}}), []api.Val{
		none,
		{{Kind: api.Arr, Many: 1}, {Kind: api.Arr, Many: 1}, {Kind: api.True}},
		{{Kind: api.Obj, Many: 1}, {Kind: api.Num}},
	})
	for _, v := range append(flat(), none, bare, nil) {
		if l := val.Parts(v); len(l) != 0 {
			t.Errorf("%+v: %+v", v, l)
		}
	}
}

// TestNames is P2.1: the names of an object's own parts, and of nothing else.
func TestNames(t *testing.T) {
	if l := val.Names(inner()); !slices.Equal(l, []string{"a", "c", "d"}) {
		t.Errorf("%q", l)
	}
	if l := val.Names(api.Val{{Kind: api.Obj, Many: 2}, {Name: ""}, {Name: "\x00"}}); !slices.Equal(l, []string{"", "\x00"}) {
		t.Errorf("%q", l)
	}
	list := api.Val{{Kind: api.Arr, Many: 2}, {Kind: api.Obj, Many: 1}, {Name: "a"}, {Kind: api.Null}}
	for _, v := range append(flat(), none, bare, list, nil) {
		if l := val.Names(v); len(l) != 0 {
			t.Errorf("%+v: %q", v, l)
		}
	}
}

// TestList is P2.1: lists, the one of nothing too.
func TestList(t *testing.T) {
	exactly(t, "of nil", val.List(nil), none)
	exactly(t, "of nothing", val.List([]api.Val{}), none)
	exactly(t, "of one", val.List([]api.Val{null}), api.Val{{Kind: api.Arr, Many: 1}, {}})
	exactly(t, "within two", val.List([]api.Val{val.List([]api.Val{val.List(nil)})}), api.Val{{Kind: api.Arr, Many: 1}, {Kind: api.Arr, Many: 1}, {Kind: api.Arr}})
	exactly(t, "of the same twice", val.List([]api.Val{inner(), number("7"), inner()}), slices.Concat(api.Val{{Kind: api.Arr, Many: 3}}, inner(), number("7"), inner()))
}

// TestObject is P2.1: objects of names in any order.
func TestObject(t *testing.T) {
	for _, c := range []struct {
		names []string
		l     []api.Val
		want  api.Val
	}{
		{nil, nil, bare},
		{[]string{}, []api.Val{}, bare},
		{[]string{""}, []api.Val{yes}, api.Val{{Kind: api.Obj, Many: 1}, {Kind: api.True}}},
		{[]string{"d", "a", "c"}, []api.Val{text("x"), val.List([]api.Val{number("1"), {{Kind: api.Obj, Many: 1}, {Name: "b"}}}), bare}, inner()},
		{[]string{"a", "c", "d"}, val.Parts(inner()), inner()},
		{[]string{"b", "a", ""}, []api.Val{number("2"), number("1"), number("")}, api.Val{{Kind: api.Obj, Many: 3}, {Kind: api.Num}, {Kind: api.Num, S: "1", Name: "a"}, {Kind: api.Num, S: "2", Name: "b"}}},
		// Byte by byte: a name ahead of what goes on with it, great letters ahead of small ones, and no number ahead of a lesser first figure.
		{[]string{"é", "b", "ab", "𝄞", "a", "B", "\uffff", "10", "9", "a\x00"}, []api.Val{null, null, null, null, null, null, null, null, null, null}, api.Val{{Kind: api.Obj, Many: 10}, {Name: "10"}, {Name: "9"}, {Name: "B"}, {Name: "a"}, {Name: "a\x00"}, {Name: "ab"}, {Name: "b"}, {Name: "é"}, {Name: "\uffff"}, {Name: "𝄞"}}},
		{[]string{"y", "x"}, []api.Val{inner(), inner()}, named("x", inner(), "y", inner())},
	} {
		v, err := val.Object(c.names, c.l)
		if err != api.OK {
			t.Errorf("%q: %d", c.names, err)
		}
		exactly(t, "object", v, c.want)
	}
}

// named is an object of two parts, laid together by hand.
func named(a string, x api.Val, b string, y api.Val) api.Val {
	v := slices.Concat(api.Val{{Kind: api.Obj, Many: 2}}, x, y)
	v[1].Name, v[1+len(x)].Name = a, b
	return v
}

// TestObjectErrors is P2.1: names that make no object.
func TestObjectErrors(t *testing.T) {
	for _, c := range []struct {
		names []string
		parts int
	}{
		{nil, 1}, {[]string{"a"}, 0}, {[]string{"a"}, 2}, {[]string{"a", "b"}, 1}, {[]string{"a", "b", "c"}, 2}, {[]string{"", "a"}, 1}, {[]string{""}, 0}, {[]string{"a", "a"}, 1},
		{[]string{"a", "a"}, 2}, {[]string{"", ""}, 2}, {[]string{"b", "a", "b"}, 3}, {[]string{"b", "c", "a", "c"}, 4}, {[]string{"a", "b", "c", "a"}, 4}, {[]string{"é", "é"}, 2},
		{[]string{"\xff"}, 1}, {[]string{"a", "\xff"}, 2}, {[]string{"\xff", "a"}, 2}, {[]string{"a", "b\xc3", "c"}, 3}, {[]string{"\xed\xa0\x80"}, 1}, {[]string{"\xc0\x80"}, 1}, {[]string{"\xf4\x90\x80\x80"}, 1}, {[]string{"a\x80b"}, 1},
	} {
		l := make([]api.Val, c.parts)
		for i := range l {
			l[i] = inner()
		}
		if v, err := val.Object(c.names, l); err != api.ErrArg || len(v) != 0 {
			t.Errorf("%q, %d parts: %+v %d", c.names, c.parts, v, err)
		}
	}
}

// TestField is P2.1: parts by their names, of an object's own alone.
func TestField(t *testing.T) {
	for i, name := range []string{"a", "c", "d"} {
		x, ok := val.Field(inner(), name)
		if !ok {
			t.Error("no", name)
		}
		exactly(t, name, x, val.Parts(inner())[i])
	}
	x, ok := val.Field(api.Val{{Kind: api.Obj, Many: 2}, {Kind: api.True, Name: ""}, {Name: "\x00"}}, "")
	if !ok || !slices.Equal(x, yes) {
		t.Error(x, ok)
	}
	for _, name := range []string{"", "b", "aa", "A", "e", "\xff", "a\x00"} {
		if x, ok := val.Field(inner(), name); ok || len(x) != 0 {
			t.Errorf("%q: %+v", name, x)
		}
	}
	list := api.Val{{Kind: api.Arr, Many: 2}, {Kind: api.Obj, Many: 1}, {Name: "a"}, {Kind: api.Null}}
	for _, v := range append(flat(), none, bare, list, nil) {
		for _, name := range []string{"", "a"} {
			if x, ok := val.Field(v, name); ok || len(x) != 0 {
				t.Errorf("%q of %+v: %+v", name, v, x)
			}
		}
	}
}

// TestWith is P2.1: a part put first, in the middle, last, and in another's place.
func TestWith(t *testing.T) {
	v := inner()
	a, c, d := v[1:5], v[5:6], v[6:7]
	two := func(name string) api.Val { return api.Val{{Kind: api.Arr, Many: 1, Name: name}, {Kind: api.True}} }
	x := two("")
	head := func(many int) api.Val { return api.Val{{Kind: api.Obj, Many: many}} }
	for _, k := range []struct {
		name string
		want api.Val
	}{
		{"", slices.Concat(head(4), two(""), a, c, d)},
		{"A", slices.Concat(head(4), two("A"), a, c, d)},
		{"a", slices.Concat(head(3), two("a"), c, d)},
		{"a\x00", slices.Concat(head(4), a, two("a\x00"), c, d)},
		{"b", slices.Concat(head(4), a, two("b"), c, d)},
		{"c", slices.Concat(head(3), a, two("c"), d)},
		{"cc", slices.Concat(head(4), a, c, two("cc"), d)},
		{"d", slices.Concat(head(3), a, c, two("d"))},
		{"dd", slices.Concat(head(4), a, c, d, two("dd"))},
		{"é", slices.Concat(head(4), a, c, d, two("é"))},
	} {
		exactly(t, "with "+k.name, val.With(inner(), k.name, x), k.want)
	}
	exactly(t, "with one", val.With(bare, "k", inner()), append(api.Val{{Kind: api.Obj, Many: 1}, {Kind: api.Obj, Many: 3, Name: "k"}}, inner()[1:]...))
	exactly(t, "with no name", val.With(bare, "", null), api.Val{{Kind: api.Obj, Many: 1}, {}})
	exactly(t, "with itself", val.With(inner(), "c", inner()), slices.Concat(head(3), a, api.Val{{Kind: api.Obj, Many: 3, Name: "c"}}, a, c, d, d))
}

// TestWithout is P2.1: a part taken away first, in the middle, last, and one that is not there.
func TestWithout(t *testing.T) {
	v := inner()
	a, c, d := v[1:5], v[5:6], v[6:7]
	head := api.Val{{Kind: api.Obj, Many: 2}}
	for name, want := range map[string]api.Val{
		"a": slices.Concat(head, c, d), "c": slices.Concat(head, a, d), "d": slices.Concat(head, a, c),
		"": inner(), "b": inner(), "A": inner(), "aa": inner(), "e": inner(), "\xff": inner(),
	} {
		exactly(t, "without "+name, val.Without(inner(), name), want)
	}
	exactly(t, "the only one", val.Without(api.Val{{Kind: api.Obj, Many: 1}, {Kind: api.Arr, Many: 1, Name: ""}, {}}, ""), bare)
	exactly(t, "of nothing", val.Without(bare, ""), bare)
	exactly(t, "of nothing", val.Without(bare, "a"), bare)
}

// TestDepth is P2.1: how deep values are.
func TestDepth(t *testing.T) {
	for _, v := range flat() {
		if d := val.Depth(v); d != 0 {
			t.Errorf("%+v: %d", v, d)
		}
	}
	list := func(l ...api.Val) api.Val { return val.List(l) }
	for _, c := range []struct {
		v    api.Val
		want int
	}{
		{none, 1}, {bare, 1}, {list(null), 1}, {list(null, yes, text("a")), 1}, {list(none), 2}, {list(bare), 2}, {list(none, none), 2}, {list(list(null)), 2},
		{inner(), 3}, {list(inner()), 4}, {list(none, inner(), none), 4}, {list(inner(), inner()), 4}, {list(inner(), null), 4}, {list(null, inner()), 4},
		{list(list(list(list())), list()), 4}, {list(list(), list(list(list()))), 4}, {list(list(list()), list(list()), list(list())), 3},
		{val.With(inner(), "c", inner()), 4}, {val.Without(inner(), "a"), 2},
	} {
		if d := val.Depth(c.v); d != c.want {
			t.Errorf("%+v: %d, not %d", c.v, d, c.want)
		}
	}
}

// TestSame is P2.1: the same is just what is so in all of it.
func TestSame(t *testing.T) {
	list := func(l ...api.Val) api.Val { return val.List(l) }
	l := append(flat(), none, bare, inner(), list(null), list(null, null), list(list(null), null), list(list(null, null)), list(no), list(inner()), list(inner(), inner()), list(number("1")), list(text("1")),
		val.With(bare, "a", null), val.With(bare, "b", null), val.With(bare, "", null), val.With(bare, "a", no), val.With(inner(), "d", text("y")), val.With(inner(), "e", null), val.Without(inner(), "d"),
		number("2"), api.Val{{Kind: api.Num, S: "1", Neg: true}}, api.Val{{Kind: api.Num, S: "1", E: 1}}, api.Val{{Kind: api.Num, S: "1", E: -1}}, text("1"), text("A"), text("aa"))
	for i, a := range l {
		for k, b := range l {
			if val.Same(a, slices.Clone(b)) != (i == k) {
				t.Errorf("%+v and %+v", a, b)
			}
		}
		if val.Same(a, nil) || val.Same(nil, a) {
			t.Errorf("%+v and nothing", a)
		}
	}
}
