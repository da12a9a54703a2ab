package term_test

import (
	"slices"
	"testing"

	"loupe/api"
	"loupe/term"
)

// alike holds lists of filters against each other.
func alike(t *testing.T, what string, got, want []api.Filter) {
	t.Helper()
	if !slices.EqualFunc(got, want, slices.Equal[api.Filter]) {
		t.Errorf("%s: %+v, not %+v", what, got, want)
	}
}

// TestParts is P7.1 and P7.3: parts as filters of their own, in order, the names off.
func TestParts(t *testing.T) {
	a, b, c := field("a"), field("b"), field("c")
	inner := does(api.OObj, named("x", a), named("", b))
	pipe := does(api.OPipe, b, c)
	for _, want := range [][]api.Filter{
		nil, {id()}, {a, b}, {inner}, {inner, a}, {a, inner}, {inner, inner, inner}, {pipe}, {does(api.OTup), does(api.OTup, a, b), does(api.OObj), pipe}, {where(does(api.PAnd, one(), two())), a, where(one())},
	} {
		alike(t, "list", term.Parts(does(api.OTup, want...)), want)
		var l []api.Filter
		for i, part := range want {
			l = append(l, named([]string{"b", "a", "", "\n"}[i], part))
		}
		alike(t, "object", term.Parts(does(api.OObj, l...)), want)
		if len(want) == 1 {
			alike(t, "map", term.Parts(does(api.OMap, want...)), want)
			alike(t, "map_values", term.Parts(does(api.OVals, want...)), want)
		}
		if len(want) == 2 {
			alike(t, "pipe", term.Parts(does(api.OPipe, want...)), want)
		}
	}
	alike(t, "long pipe", term.Parts(does(api.OPipe, a, pipe)), []api.Filter{a, pipe})
	for _, f := range []api.Filter{id(), a, counts(api.OPart, 2), counts(api.OTail, 2), does(api.OToE), does(api.OFromE), does(api.ORev), says(api.OGroup, "."), says(api.OSort, "."), says(api.ODel, "."), does(api.OObj), does(api.OTup)} {
		alike(t, term.Text(f), term.Parts(f), nil)
	}
}

// TestConditionParts is P7.1: parts of conditions, and of what has one.
func TestConditionParts(t *testing.T) {
	and, or, not := does(api.PAnd, one(), two()), does(api.POr, two(), three()), does(api.PNot, three())
	for _, l := range [][]api.Filter{{one(), two()}, {and, three()}, {or, and}, {not, does(api.PNot, or)}, {three(), three()}} {
		alike(t, "and", term.Parts(does(api.PAnd, l...)), l)
		alike(t, "or", term.Parts(does(api.POr, l...)), l)
	}
	for _, c := range []api.Filter{one(), and, or, not} {
		alike(t, "not", term.Parts(does(api.PNot, c)), []api.Filter{c})
		alike(t, "select", term.Parts(where(c)), []api.Filter{c})
	}
	alike(t, "comparison", term.Parts(one()), nil)
}

// TestPipe is P7.1 and P7.2: of what is piped already its second part goes on.
func TestPipe(t *testing.T) {
	a, b, c, d := field("a"), field("b"), does(api.OMap, does(api.OPipe, id(), id())), does(api.OTup, id(), does(api.OPipe, id(), id()))
	pipe := func(f, g api.Filter) api.Filter { return does(api.OPipe, f, g) }
	for _, x := range []struct{ f, g, want api.Filter }{
		{id(), id(), pipe(id(), id())},
		{a, b, pipe(a, b)},
		{a, a, pipe(a, a)},
		{c, d, pipe(c, d)},
		{a, pipe(b, c), pipe(a, pipe(b, c))},
		{pipe(a, b), c, pipe(a, pipe(b, c))},
		{pipe(c, d), c, pipe(c, pipe(d, c))},
		{pipe(a, b), pipe(c, d), pipe(a, pipe(b, pipe(c, d)))},
		{pipe(d, pipe(c, b)), a, pipe(d, pipe(c, pipe(b, a)))},
		{pipe(a, pipe(b, pipe(c, d))), pipe(d, c), pipe(a, pipe(b, pipe(c, pipe(d, pipe(d, c)))))},
		{where(one()), where(two()), pipe(where(one()), where(two()))},
		{does(api.OObj, named("x", pipe(a, b))), does(api.OTup), pipe(does(api.OObj, named("x", pipe(a, b))), does(api.OTup))},
	} {
		if got := term.Pipe(x.f, x.g); !slices.Equal(got, x.want) || !term.Right(got) {
			t.Errorf("%s, then %s: %s; right: %v", term.Text(x.f), term.Text(x.g), term.Text(got), term.Right(got))
		}
	}
}

// TestSame is P7.1: all of it counts.
func TestSame(t *testing.T) {
	var l []api.Filter
	for _, f := range texted() {
		l = append(l, f)
	}
	for _, c := range conditions() {
		l = append(l, does(api.OTup, where(c)))
	}
	for i, f := range l {
		for k, g := range l {
			if term.Same(f, slices.Clone(g)) != (i == k) {
				t.Errorf("%s and %s: %v", term.Text(f), term.Text(g), i != k)
			}
		}
	}
	pair := func(f api.Filter) api.Filter { return does(api.OTup, id(), f) }
	for _, x := range []struct{ f, g api.Filter }{
		{pair(id()), does(api.OTup, id())},
		{pair(does(api.OToE)), pair(does(api.OFromE))},
		{pair(field("a")), pair(field("A"))},
		{pair(counts(api.OPart, 1)), pair(counts(api.OPart, 2))},
		{pair(says(api.ODel, ".a")), pair(says(api.ODel, ".b"))},
		{pair(does(api.OObj, named("a", id()))), pair(does(api.OObj, named("b", id())))},
		{does(api.OObj, named("a", id()), named("b", id())), does(api.OObj, named("b", id()), named("a", id()))},
		{where(one()), where(compare(".a", api.Ne, number("1")))},
		{where(one()), where(compare(".a", api.Eq, number("2")))},
		{where(compare(".", api.Eq, str("1"))), where(compare(".", api.Eq, number("1")))},
		{where(compare(".", api.Eq, number("1"))), where(compare(".", api.Eq, api.Node{Kind: api.Num, S: "1", E: 1}))},
		{where(compare(".", api.Eq, number("1"))), where(compare(".", api.Eq, api.Node{Kind: api.Num, S: "1", Neg: true}))},
		{where(does(api.PAnd, one(), two())), where(does(api.PAnd, two(), one()))},
		{nil, id()},
	} {
		if term.Same(x.f, x.g) || term.Same(x.g, x.f) || !term.Same(x.f, slices.Clone(x.f)) || !term.Same(x.g, slices.Clone(x.g)) {
			t.Errorf("%+v and %+v", x.f, x.g)
		}
	}
	if !term.Same(nil, api.Filter{}) {
		t.Error("nothing is not nothing")
	}
}
