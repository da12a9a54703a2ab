package eval

import (
	"loupe/api"
	"loupe/order"
)

// condition tells whether it holds of a value of its own; or no, and ErrType.
type condition func(v *tree) (bool, api.Errno)

func (r *reader) condition() condition {
	switch t := r.take(); t.Op {
	case api.PCmp:
		return compared(byPath(t.S, along), t.N, t.C)
	case api.PAnd:
		first := r.condition()
		return joined(first, r.condition(), false)
	case api.POr:
		first := r.condition()
		return joined(first, r.condition(), true)
	case api.PNot:
		return denied(r.condition())
	}
	return func(*tree) (bool, api.Errno) { return false, api.ErrType }
}

// compared tells whether what is given, compared with c, is as n says.
func compared(give filter, n int, c api.Node) condition {
	return func(v *tree) (bool, api.Errno) {
		x, err := give(v)
		if err != api.OK {
			return false, err
		}
		// c has no parts, so of a value that has some the kind alone tells.
		return isSo(n, order.Cmp(x.flat(), api.Val{c})), api.OK
	}
}

// isSo tells whether n says what Cmp has told.
func isSo(n, told int) bool {
	switch n {
	case api.Eq:
		return told == 0
	case api.Ne:
		return told != 0
	case api.Lt:
		return told < 0
	case api.Le:
		return told <= 0
	case api.Gt:
		return told > 0
	case api.Ge:
		return told >= 0
	}
	return false
}

// joined asks the second one only if the first one does not settle it.
func joined(first, second condition, settles bool) condition {
	return func(v *tree) (bool, api.Errno) {
		is, err := first(v)
		if err != api.OK || is == settles {
			return is, err
		}
		return second(v)
	}
}

func denied(holds condition) condition {
	return func(v *tree) (bool, api.Errno) {
		is, err := holds(v)
		return err == api.OK && !is, err
	}
}
