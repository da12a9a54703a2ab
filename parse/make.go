package parse

import (
	"slices"

	"loupe/api"
	"loupe/term"
)

// of is a term with its parts behind it.
func of(t api.Term, parts ...api.Filter) api.Filter {
	t.Many = len(parts)
	return slices.Concat(append([]api.Filter{{t}}, parts...)...)
}

// piped is one filter after another. Pipe hangs on no brackets, so halves are piped first: of a long row each term is copied far less often than one by one.
func piped(l []api.Filter) api.Filter {
	if len(l) == 1 {
		return l[0]
	}
	half := len(l) / 2
	return term.Pipe(piped(l[:half]), piped(l[half:]))
}

// fromLeft is conditions joined from the left: each term that joins has as its first part all that is joined ahead, so all these terms stand first.
func fromLeft(op int, l []api.Filter) api.Filter {
	joins := slices.Repeat(api.Filter{{Op: op, Many: 2}}, len(l)-1)
	return slices.Concat(joins, slices.Concat(l...))
}
