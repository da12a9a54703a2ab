package ty

import (
	"iter"
	"slices"

	"loupe/api"
)

// parts tells where in a row the parts begin and end of the type that begins at a place of it, in order.
func parts(t api.Type, at int) iter.Seq2[int, int] {
	return func(yield func(from, to int) bool) {
		if at >= len(t) {
			return
		}
		from := at + 1
		for range t[at].Many {
			to := past(t, from)
			// A row that is no type may have fewer parts than it says.
			if from == to || !yield(from, to) {
				return
			}
			from = to
		}
	}
}

// past is the place behind the type that begins at a place of a row.
func past(t api.Type, at int) int {
	for lack := 1; lack > 0 && at < len(t); at++ {
		lack += t[at].Many - 1
	}
	return at
}

// own is a part as a type of its own, in memory of its own.
func own(row api.Type) api.Type {
	t := slices.Clone(row)
	t[0].Name = ""
	return t
}

// laid is the row of a Ty and its parts.
func laid(t api.Ty, parts ...api.Type) api.Type {
	t.Many = len(parts)
	long := 1
	for _, part := range parts {
		long += len(part)
	}
	row := make(api.Type, 0, long)
	row = append(row, t)
	for _, part := range parts {
		row = append(row, part...)
	}
	return row
}

// field is where in a row the part begins to which a step leads from the type that begins at a place of it; 0, where no part begins, if it leads to none.
func field(t api.Type, at int, step api.Step) int {
	if at >= len(t) || t[at].Kind != api.YObj {
		return 0
	}
	for from := range parts(t, at) {
		// A step to a part of a list is none to a field, whatever name it has.
		if step == (api.Step{Name: t[from].Name}) {
			return from
		}
	}
	return 0
}

func isScal(t api.Type, at int) bool { return at < len(t) && t[at].Kind == api.YScal }

func atomOf(x api.Ty) api.Atom { return api.Atom{N: x.N, C: x.C} }
