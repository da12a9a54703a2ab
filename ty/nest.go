package ty

import (
	"unicode/utf8"

	"loupe/api"
)

// goal is a path that has to lead to a YScal, as far as a walk along a row has gone along it: the steps that are left. Most types are on no such path.
type goal struct {
	is   bool
	left api.Path
}

// lets tells whether the path may come to a type of that kind: behind its last step to a YScal alone, ahead of it to what has fields.
func (g goal) lets(kind int) bool {
	if len(g.left) == 0 {
		return kind == api.YScal
	}
	return kind == api.YObj
}

// holder is a type within which a walk along a row is: its kind, how many of its parts are still to come, the name of the one ahead, if one has begun, and the path that has to lead into one of those to come.
type holder struct {
	kind, left int
	begun      bool
	ahead      string
	into       goal
}

// lets tells whether the next part may begin with that Ty.
func (h *holder) lets(x api.Ty) bool {
	if (x.Kind == api.YAtom) != (h.kind == api.YScal) {
		return false
	}
	if h.kind != api.YObj {
		return x.Name == ""
	}
	return utf8.ValidString(x.Name) && (!h.begun || h.ahead < x.Name)
}

// hand is what is left of the holder's path for the next part, of that name, which it leads into; it is the holder's no more. None is handed on, if the path leads into another one.
func (h *holder) hand(name string) goal {
	g := h.into
	if g.is && h.kind == api.YObj {
		if g.left[0].Name != name {
			return goal{}
		}
		g.left = g.left[1:]
	}
	h.into = goal{}
	return g
}

// nest is the holders of the Ty that a walk along a row comes to next, the innermost last. All that is asked on the way is asked of these, so that the walk is as long as the row, however deep that is, and however many paths there are.
type nest []holder

// begin is the nest ahead of a row: as if it were a list's one part, which has no name and is no atom.
func begin() nest { return nest{{kind: api.YTup, left: 1}} }

func (in nest) last() *holder { return &in[len(in)-1] }

// pass goes by a right Ty; behind the last one of a type the nest is empty. It tells whether all paths lead where they have to, as far as they are gone along.
func (in *nest) pass(x api.Ty) bool {
	h := in.last()
	h.left--
	h.begun, h.ahead = true, x.Name
	g := h.hand(x.Name)
	if g.is && !g.lets(x.Kind) {
		return false
	}
	*in = append(*in, within(x, g))
	return in.leave()
}

// within is a Ty as the holder of parts of which none has come yet, with the path that came to it.
func within(x api.Ty, came goal) holder {
	h := holder{kind: x.Kind, left: x.Many}
	switch x.Kind {
	case api.YObj:
		h.into = came
	case api.YSort, api.YGroup:
		p, _ := fields(x.S)
		h.into = goal{true, p}
	}
	return h
}

// leave leaves the holders that have all their parts; no, if a path should have led into one of these.
func (in *nest) leave() bool {
	for len(*in) > 0 && in.last().left == 0 {
		if in.last().into.is {
			return false
		}
		*in = (*in)[:len(*in)-1]
	}
	return true
}
