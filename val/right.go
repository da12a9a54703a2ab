package val

import (
	"unicode/utf8"

	"loupe/api"
	"loupe/num"
)

// Right: is it right?
func Right(v api.Val) bool {
	in := begin()
	for _, n := range v {
		if len(in) == 0 || !in[len(in)-1].lets(n.Name) || !rightNode(n) {
			return false
		}
		in = in.pass(n)
	}
	return len(in) == 0
}

func rightNode(n api.Node) bool {
	switch n.Kind {
	case api.Null, api.False, api.True:
		return n.Many == 0 && n.S == "" && !n.Neg && n.E == 0
	case api.Num:
		n.Name = ""
		return num.Right(n)
	case api.Str:
		return n.Many == 0 && utf8.ValidString(n.S) && !n.Neg && n.E == 0
	case api.Arr, api.Obj:
		return n.Many >= 0 && n.S == "" && !n.Neg && n.E == 0
	}
	return false
}

// holder is a list or an object within which a walk along a row is: how many of its parts are still to come, and the name of the one ahead, if one has begun.
type holder struct {
	kind, left int
	begun      bool
	ahead      string
}

// lets tells whether the next part may have that name.
func (h holder) lets(name string) bool {
	if h.kind != api.Obj {
		return name == ""
	}
	return utf8.ValidString(name) && (!h.begun || h.ahead < name)
}

// nest is the holders of the node that a walk along a row comes to next, the innermost last. It is kept in place of recursion, so that the walk is as long as the row, however deep that is.
type nest []holder

// begin is the nest ahead of a row: as if it were a list's one part, which has no name and none behind it.
func begin() nest { return nest{{kind: api.Arr, left: 1}} }

// pass is the nest behind a node; it is empty behind the last one of a value.
func (in nest) pass(n api.Node) nest {
	if len(in) == 0 {
		return in
	}
	h := &in[len(in)-1]
	h.left--
	h.begun, h.ahead = true, n.Name
	if n.Many > 0 {
		return append(in, holder{kind: n.Kind, left: n.Many})
	}
	for len(in) > 0 && in[len(in)-1].left == 0 {
		in = in[:len(in)-1]
	}
	return in
}
