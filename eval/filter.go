package eval

import (
	"loupe/api"
	"loupe/path"
)

// filter tells what is given of a value of its own, which is a value of its own, too; or nothing, and ErrNone or ErrType.
type filter func(v *tree) (*tree, api.Errno)

// reader is the terms of a filter that are not taken yet. Each is taken once, however deep the filter is, and however many values it is asked of.
type reader struct{ left api.Filter }

// take goes past the term that stands next; of a row that ends too soon it is one that does nothing known.
func (r *reader) take() api.Term {
	if len(r.left) == 0 {
		return api.Term{Op: -1}
	}
	t := r.left[0]
	r.left = r.left[1:]
	return t
}

func (r *reader) filter() filter {
	switch t := r.take(); t.Op {
	case api.OId:
		return along(nil)
	case api.OField:
		return along(api.Path{{Name: t.S}})
	case api.OPart:
		return along(api.Path{{Part: true, N: t.N}})
	case api.OTail:
		return tail(t.N)
	case api.OPipe:
		first := r.filter()
		return piped(first, r.filter())
	case api.OMap:
		return mapped(r.filter())
	case api.OVals:
		return replaced(r.filter())
	case api.OWhere:
		return selected(r.condition())
	case api.OObj:
		return fields(r.parts(t.Many))
	case api.OTup:
		return tuple(r.parts(t.Many))
	case api.OToE:
		return toEntries
	case api.OFromE:
		return fromEntries
	case api.OGroup:
		return byPath(t.S, grouped)
	case api.OSort:
		return byPath(t.S, sorted)
	case api.ORev:
		return reversed
	case api.ODel:
		return byPath(t.S, without)
	}
	return wrong
}

// named is a filter as a part of that name.
type named struct {
	name string
	give filter
}

// parts reads as many filters.
func (r *reader) parts(many int) []named {
	var l []named
	// A row that is no filter may have fewer parts than it says.
	for i := 0; i < many && len(r.left) > 0; i++ {
		name := r.left[0].Name
		l = append(l, named{name, r.filter()})
	}
	return l
}

// byPath is the filter that one makes of the path that a text is of.
func byPath(s string, of func(p api.Path) filter) filter {
	p, _, err := path.Read(s)
	if err != api.OK {
		return wrong
	}
	return of(p)
}

// wrong is an error of all values.
func wrong(*tree) (*tree, api.Errno) { return nil, api.ErrType }

func piped(first, second filter) filter {
	return func(v *tree) (*tree, api.Errno) {
		x, err := first(v)
		if err != api.OK {
			return nil, err
		}
		return second(x)
	}
}

func selected(holds condition) filter {
	return func(v *tree) (*tree, api.Errno) {
		is, err := holds(v)
		if err != api.OK {
			return nil, err
		}
		if !is {
			return nil, api.ErrNone
		}
		return v, api.OK
	}
}
