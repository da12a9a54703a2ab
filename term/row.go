package term

import (
	"iter"
	"slices"

	"loupe/api"
)

// rows tells a filter's parts in order, each as it stands in the row: with its name, and in the row's memory.
func rows(f api.Filter) iter.Seq[api.Filter] {
	return func(yield func(api.Filter) bool) {
		if len(f) == 0 {
			return
		}
		from := 1
		for range f[0].Many {
			to := past(f, from)
			// A row that is no filter may have fewer parts than it says.
			if from == to || !yield(f[from:to]) {
				return
			}
			from = to
		}
	}
}

// past is the place behind the filter that begins at a place of a row.
func past(f api.Filter, at int) int {
	for lack := 1; lack > 0 && at < len(f); at++ {
		lack += f[at].Many - 1
	}
	return at
}

// own is a part as a filter of its own, in memory of its own.
func own(row api.Filter) api.Filter {
	f := slices.Clone(row)
	f[0].Name = ""
	return f
}

// lastPiped is where the last one begins of those that are piped; the filter itself, if it is no pipe.
func lastPiped(f api.Filter) int {
	at := 0
	for at < len(f) && f[at].Op == api.OPipe {
		at = past(f, at+1)
	}
	return at
}
