package val

import (
	"iter"
	"slices"

	"loupe/api"
)

// rows tells a value's parts in order, each as it stands in the row: with its name, and in the row's memory.
func rows(v api.Val) iter.Seq[api.Val] {
	return func(yield func(api.Val) bool) {
		if len(v) == 0 || !holdsParts(v[0].Kind) {
			return
		}
		for rest := v[1:]; len(rest) > 0; {
			n := size(rest)
			if !yield(rest[:n]) {
				return
			}
			rest = rest[n:]
		}
	}
}

// size is how many nodes the value has that a row begins with; the row's, if it ends too soon.
func size(row api.Val) int {
	lack := 1
	for i, n := range row {
		lack += n.Many - 1
		if lack <= 0 {
			return i + 1
		}
	}
	return len(row)
}

// find is where an object's part of that name begins, and where it ends; if there is none, both are the place where it would stand.
func find(v api.Val, name string) (from, to int) {
	at := 1
	for row := range rows(v) {
		if row[0].Name == name {
			return at, at + len(row)
		}
		// Names rise, so it is not further on.
		if row[0].Name > name {
			break
		}
		at += len(row)
	}
	return at, at
}

// own is a part as a value of its own, in memory of its own.
func own(row api.Val) api.Val {
	v := slices.Clone(row)
	v[0].Name = ""
	return v
}

// head is the first node of a list or an object of these parts, with room for them.
func head(kind int, l []api.Val) api.Val {
	long := 1
	for _, part := range l {
		long += len(part)
	}
	v := make(api.Val, 1, long)
	v[0] = api.Node{Kind: kind, Many: len(l)}
	return v
}

// lay puts a part behind what there is of a row, by that name.
func lay(row api.Val, name string, part api.Val) api.Val {
	at := len(row)
	row = append(row, part...)
	if at < len(row) {
		row[at].Name = name
	}
	return row
}
