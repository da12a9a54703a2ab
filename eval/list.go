package eval

import (
	"slices"

	"loupe/api"
	"loupe/order"
)

// each is what is given of each, in order, without those of which none is; or the first error.
func each[T any](l []T, give func(x T) (*tree, api.Errno)) ([]*tree, api.Errno) {
	var parts []*tree
	for _, x := range l {
		part, err := give(x)
		if err == api.ErrNone {
			continue
		}
		if err != api.OK {
			return nil, err
		}
		parts = append(parts, part)
	}
	return parts, api.OK
}

// listOf is the list of what is given of each.
func listOf[T any](l []T, give func(x T) (*tree, api.Errno)) (*tree, api.Errno) {
	parts, err := each(l, give)
	if err != api.OK {
		return nil, err
	}
	return list(parts), api.OK
}

func tuple(filters []named) filter {
	return func(v *tree) (*tree, api.Errno) {
		return listOf(filters, func(f named) (*tree, api.Errno) { return f.give(v) })
	}
}

func mapped(give filter) filter {
	return func(v *tree) (*tree, api.Errno) {
		if !v.holdsParts() {
			return nil, api.ErrType
		}
		return listOf(v.parts, func(part *tree) (*tree, api.Errno) { return give(part.named("")) })
	}
}

func replaced(give filter) filter {
	return func(v *tree) (*tree, api.Errno) {
		if !v.holdsParts() {
			return nil, api.ErrType
		}
		parts, err := each(v.parts, func(part *tree) (*tree, api.Errno) {
			x, err := give(part.named(""))
			if err != api.OK {
				return nil, err
			}
			return x.named(part.node.Name), api.OK
		})
		if err != api.OK {
			return nil, err
		}
		return v.with(parts), api.OK
	}
}

func tail(n int) filter {
	return func(v *tree) (*tree, api.Errno) {
		switch v.node.Kind {
		case api.Null:
			return v, api.OK
		case api.Str:
			return str(runesFrom(v.node.S, n)), api.OK
		case api.Arr:
			from := min(max(n, 0), len(v.parts))
			return list(v.parts[from:]), api.OK
		}
		return nil, api.ErrType
	}
}

// runesFrom is what stands in a string behind as many runes.
func runesFrom(s string, n int) string {
	for at := range s {
		if n <= 0 {
			return s[at:]
		}
		n--
	}
	return ""
}

func reversed(v *tree) (*tree, api.Errno) {
	switch v.node.Kind {
	case api.Null:
		return list(nil), api.OK
	case api.Str:
		runes := []rune(v.node.S)
		slices.Reverse(runes)
		return str(string(runes)), api.OK
	case api.Arr:
		parts := slices.Clone(v.parts)
		slices.Reverse(parts)
		return list(parts), api.OK
	}
	return nil, api.ErrType
}

func sorted(p api.Path) filter {
	return byKeys(p, func(parts []*tree, keys []api.Val) *tree { return picked(parts, order.Sort(keys)) })
}

func grouped(p api.Path) filter {
	return byKeys(p, func(parts []*tree, keys []api.Val) *tree {
		var groups []*tree
		for _, places := range order.Groups(keys) {
			groups = append(groups, picked(parts, places))
		}
		return list(groups)
	})
}

// picked is the list of the parts at these places.
func picked(parts []*tree, places []int) *tree {
	var l []*tree
	for _, at := range places {
		l = append(l, parts[at])
	}
	return list(l)
}

// byKeys gives what is laid of a list's parts by their keys, which are what a path gives of each.
func byKeys(p api.Path, lay func(parts []*tree, keys []api.Val) *tree) filter {
	give := along(p)
	return func(v *tree) (*tree, api.Errno) {
		if !v.is(api.Arr) {
			return nil, api.ErrType
		}
		var keys []api.Val
		for _, part := range v.parts {
			x, err := give(part)
			if err != api.OK {
				return nil, err
			}
			keys = append(keys, x.row())
		}
		return lay(v.parts, keys), api.OK
	}
}
