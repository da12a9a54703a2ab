package term_test

import (
	"slices"

	"loupe/api"
)

// of is a term with its parts behind it, laid by hand, without the calls that are tested.
func of(t api.Term, parts ...api.Filter) api.Filter {
	t.Many = len(parts)
	return append(api.Filter{t}, slices.Concat(parts...)...)
}

// does is a term that has nothing beside its parts.
func does(op int, parts ...api.Filter) api.Filter { return of(api.Term{Op: op}, parts...) }

// says is a term without parts that has a text.
func says(op int, s string) api.Filter { return of(api.Term{Op: op, S: s}) }

// counts is a term without parts that has a number.
func counts(op, n int) api.Filter { return of(api.Term{Op: op, N: n}) }

// named is a filter as a part of that name.
func named(name string, f api.Filter) api.Filter {
	f = slices.Clone(f)
	f[0].Name = name
	return f
}

func field(name string) api.Filter { return says(api.OField, name) }

func compare(s string, n int, c api.Node) api.Filter {
	return of(api.Term{Op: api.PCmp, S: s, N: n, C: c})
}

func where(c api.Filter) api.Filter { return does(api.OWhere, c) }

// id is the filter that leaves all as it is, and one, two and three are conditions.
func id() api.Filter    { return does(api.OId) }
func one() api.Filter   { return compare(".a", api.Eq, number("1")) }
func two() api.Filter   { return compare(".b", api.Lt, number("2")) }
func three() api.Filter { return compare(".", api.Ne, api.Node{}) }

func number(figures string) api.Node { return api.Node{Kind: api.Num, S: figures} }

func str(s string) api.Node { return api.Node{Kind: api.Str, S: s} }
