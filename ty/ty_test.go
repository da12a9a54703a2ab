package ty_test

import (
	"slices"
	"testing"

	"loupe/api"
	"loupe/ty"
)

// alike holds lists of types against each other.
func alike(t *testing.T, what string, got, want []api.Type) {
	t.Helper()
	if !slices.EqualFunc(got, want, slices.Equal[api.Type]) {
		t.Errorf("%s: %+v, not %+v", what, got, want)
	}
}

// TestParts is P12.1: parts as types of their own, in order, the names off.
func TestParts(t *testing.T) {
	ge := than(api.Ge, node("0"))
	inner := open(named("", num()), named("x", scal(8, ge, ge)))
	for _, want := range [][]api.Type{
		nil, {anything()}, {num(), str()}, {scal(8, ge)}, {scal(8, ge), str()}, {inner}, {inner, num()}, {num(), inner}, {inner, inner, inner}, {tup(), tup(num(), inner), shut(), list(tup())}, {sorted(".x", inner), grouped(".", num())},
	} {
		alike(t, "tup", ty.Parts(tup(want...)), want)
		var l []api.Type
		for i, part := range want {
			l = append(l, named([]string{"", "\n", "a", "b"}[i], part))
		}
		alike(t, "fields alone", ty.Parts(shut(l...)), want)
		alike(t, "fields", ty.Parts(open(l...)), want)
		if len(want) == 1 {
			for _, kind := range []int{api.YDict, api.YArr, api.YEnts} {
				alike(t, "one", ty.Parts(is(kind, want...)), want)
			}
		}
	}
	alike(t, "sorted", ty.Parts(sorted(".x", inner)), []api.Type{inner})
	alike(t, "grouped", ty.Parts(grouped(".", scal(1, ge))), []api.Type{scal(1, ge)})
	for _, x := range []api.Type{anything(), num(), scal(31), scal(8, ge), scal(8, ge, ge), shut(), open(), tup()} {
		alike(t, ty.Text(x), ty.Parts(x), nil)
	}
}

// TestAtoms is P12.1: the atoms of a YScal, in order; of no other type any.
func TestAtoms(t *testing.T) {
	ge, lt, ne := than(api.Ge, node("0")), than(api.Lt, node("1.5")), than(api.Ne, node(`"a"`))
	for _, l := range [][]api.Type{nil, {ge}, {ge, lt}, {lt, ge}, {ge, ge}, {ne, ge, lt, ge, ne}} {
		var want []api.Atom
		for _, row := range l {
			want = append(want, api.Atom{N: row[0].N, C: row[0].C})
		}
		for _, mask := range []int{1, 8, 24, 31} {
			if got := ty.Atoms(scal(mask, l...)); !slices.Equal(got, want) {
				t.Errorf("%d: %+v, not %+v", mask, got, want)
			}
		}
		x := scal(8, l...)
		for _, other := range []api.Type{list(x), dict(x), entries(x), tup(x), tup(x, x), shut(named("a", x)), open(named("a", x)), sorted(".", x), grouped(".", x)} {
			if got := ty.Atoms(other); len(got) != 0 {
				t.Errorf("%s: %+v", ty.Text(other), got)
			}
		}
	}
	if l := ty.Atoms(anything()); len(l) != 0 {
		t.Errorf("any: %+v", l)
	}
}

// TestMade is P12.1 and P12.2: a Ty, and behind it its parts, each with its name, if there are names.
func TestMade(t *testing.T) {
	ge, ne := than(api.Ge, node("0")), than(api.Ne, node(`"a"`))
	inner := open(named("", num()), named("x", scal(8, ge)))
	for _, x := range []struct {
		t     api.Ty
		names []string
		l     []api.Type
		want  api.Type
	}{
		{api.Ty{}, nil, nil, anything()},
		{api.Ty{Kind: api.YTup}, nil, nil, tup()}, {api.Ty{Kind: api.YTup}, []string{}, []api.Type{}, tup()},
		{api.Ty{Kind: api.YTup}, nil, []api.Type{num(), inner, str()}, tup(num(), inner, str())},
		{api.Ty{Kind: api.YObj}, nil, nil, shut()}, {api.Ty{Kind: api.YObj, N: 1}, nil, nil, open()},
		{api.Ty{Kind: api.YObj, N: 1}, []string{"a"}, []api.Type{num()}, open(named("a", num()))},
		{api.Ty{Kind: api.YObj}, []string{"", "a", "é"}, []api.Type{inner, scal(8, ge, ne), inner}, shut(named("", inner), named("a", scal(8, ge, ne)), named("é", inner))},
		{api.Ty{Kind: api.YArr}, nil, []api.Type{inner}, list(inner)}, {api.Ty{Kind: api.YDict}, nil, []api.Type{inner}, dict(inner)}, {api.Ty{Kind: api.YEnts}, nil, []api.Type{num()}, entries(num())},
		{api.Ty{Kind: api.YSort, S: ".x"}, nil, []api.Type{inner}, sorted(".x", inner)}, {api.Ty{Kind: api.YGroup, S: "."}, nil, []api.Type{num()}, grouped(".", num())},
		// Of a YScal atoms are parts.
		{api.Ty{Kind: api.YScal, N: 9}, nil, nil, scal(9)}, {api.Ty{Kind: api.YScal, N: 9}, nil, []api.Type{ge, ne}, scal(9, ge, ne)},
		// How many parts it had does not count; what else it has stays.
		{api.Ty{Kind: api.YTup, Many: 7}, nil, []api.Type{num()}, tup(num())}, {api.Ty{Kind: api.YObj, Many: -1, N: 1}, []string{"b"}, []api.Type{num()}, open(named("b", num()))}, {api.Ty{Kind: api.YScal, Many: 3, N: 8}, nil, nil, num()}, {api.Ty{Kind: api.YTup, Name: "x"}, nil, []api.Type{num()}, named("x", tup(num()))},
		// It asks for no right type.
		{api.Ty{Kind: api.YObj}, []string{"b", "a", "b"}, []api.Type{num(), num(), num()}, shut(named("b", num()), named("a", num()), named("b", num()))}, {api.Ty{Kind: api.YArr, N: 5, S: "x", C: node("1")}, nil, nil, api.Type{{Kind: api.YArr, N: 5, S: "x", C: node("1")}}},
	} {
		if got := ty.Made(x.t, x.names, x.l); !slices.Equal(got, x.want) {
			t.Errorf("%+v, %q, %+v: %+v, not %+v", x.t, x.names, x.l, got, x.want)
		}
	}
}

// TestLeaf is P12.1: the place of the YScal to which a path leads.
func TestLeaf(t *testing.T) {
	ge := than(api.Ge, node("0"))
	x := shut(named("", num()), named("a", scal(8, ge, ge)), named("b", open(named("a", str()), named("b", list(num())), named("c", shut(named("x y", scal(1)))))), named("c", tup(num())), named("d", dict(num())), named("e", anything()), named("f", entries(num())), named("g", sorted(".a", shut(named("a", num())))), named("h", shut()), named("i", scal(31)))
	for s, want := range map[string]int{
		`.""`: 1, ".a": 2, ".b.a": 6, `.b.c."x y"`: 10, ".i": len(x) - 1,
		".": 0, ".b": 0, ".c": 0, ".d": 0, ".e": 0, ".f": 0, ".g": 0, ".h": 0, ".b.b": 0, ".b.c": 0, ".A": 0, ".aa": 0, ".x": 0, ".j": 0, ".a.a": 0, ".b.x": 0, ".b.a.a": 0, ".b.b.a": 0, `.b.c."x y".a`: 0, ".c.a": 0, ".d.a": 0, ".e.a": 0, ".f.key": 0, ".f.value": 0, ".g.a": 0, ".h.a": 0,
		".[0]": 0, ".[1]": 0, ".b[0]": 0, ".c[0]": 0, ".b.b[0]": 0, ".a[0]": 0,
	} {
		if at, ok := ty.Leaf(x, steps(t, s)); at != want || ok != (want > 0) {
			t.Errorf("%s: %d, %v, not %d", s, at, ok, want)
		}
	}
	for _, p := range []api.Path{nil, {}} {
		for _, y := range []api.Type{num(), scal(31), scal(1, ge)} {
			if at, ok := ty.Leaf(y, p); at != 0 || !ok {
				t.Errorf("%s: %d, %v", ty.Text(y), at, ok)
			}
		}
		for _, y := range []api.Type{anything(), shut(), list(num()), dict(num()), tup(num()), entries(num()), sorted(".", num()), grouped(".", num()), shut(named("", num()))} {
			if at, ok := ty.Leaf(y, p); at != 0 || ok {
				t.Errorf("%s: %d, %v", ty.Text(y), at, ok)
			}
		}
	}
	// A step to the part 0 of a list has no name, and is none to the field without letters.
	if at, ok := ty.Leaf(x, api.Path{{Part: true}}); at != 0 || ok {
		t.Error(at, ok)
	}
}

// TestSame is P12.1: all of it counts.
func TestSame(t *testing.T) {
	var l []api.Type
	for _, x := range texted() {
		l = append(l, x)
	}
	for i, x := range l {
		for k, y := range l {
			if ty.Same(x, slices.Clone(y)) != (i == k) {
				t.Errorf("%s and %s: %v", ty.Text(x), ty.Text(y), i != k)
			}
		}
	}
	for _, x := range []struct{ a, b api.Type }{
		{tup(num(), num()), tup(num())}, {list(num()), dict(num())}, {list(num()), entries(num())}, {list(num()), list(str())},
		{sorted(".", num()), grouped(".", num())}, {sorted(".a", num()), sorted(".b", num())},
		{shut(named("a", num())), shut(named("b", num()))}, {shut(named("a", num())), open(named("a", num()))},
		{scal(8, than(api.Ge, node("0"))), scal(8, than(api.Gt, node("0")))}, {scal(8, than(api.Ge, node("0"))), scal(8, than(api.Ge, node("1")))}, {scal(8, than(api.Ge, node("1"))), scal(8, than(api.Ge, node("-1")))}, {scal(8, than(api.Ge, node("1"))), scal(8, than(api.Ge, node("10")))}, {scal(8, than(api.Ge, node("1"))), scal(8, than(api.Ge, node(`"1"`)))},
		{scal(8, than(api.Ge, node("0")), than(api.Le, node("1"))), scal(8, than(api.Le, node("1")), than(api.Ge, node("0")))},
		{nil, anything()}, {num(), scal(24)},
	} {
		if ty.Same(x.a, x.b) || ty.Same(x.b, x.a) || !ty.Same(x.a, slices.Clone(x.a)) || !ty.Same(x.b, slices.Clone(x.b)) {
			t.Errorf("%+v and %+v", x.a, x.b)
		}
	}
	if !ty.Same(nil, api.Type{}) {
		t.Error("nothing is not nothing")
	}
}
