package term

import (
	"unicode/utf8"

	"loupe/api"
)

// holder is a term within which a walk along a row is: what it does, how many of its parts are still to come, and the names of those ahead, if its parts have names.
type holder struct {
	op, left int
	ahead    map[string]int
}

// lets tells whether the next part may begin with that term.
func (h holder) lets(t api.Term) bool {
	if h.op == api.OPipe && h.left == 2 && t.Op == api.OPipe {
		return false
	}
	return isCondition(t.Op) == ofConditions(h.op) && h.letsName(t.Name)
}

func (h holder) letsName(name string) bool {
	if h.op != api.OObj {
		return name == ""
	}
	_, twice := h.ahead[name]
	return !twice && utf8.ValidString(name)
}

func isCondition(op int) bool {
	switch op {
	case api.PCmp, api.PAnd, api.POr, api.PNot:
		return true
	}
	return false
}

// ofConditions tells whether the parts of a term that does this are conditions.
func ofConditions(op int) bool {
	switch op {
	case api.OWhere, api.PAnd, api.POr, api.PNot:
		return true
	}
	return false
}

// nest is the holders of the term that a walk along a row comes to next, the innermost last. It is kept in place of recursion, so that the walk is as long as the row, however deep that is.
type nest []holder

// begin is the nest ahead of a row: as if it were a list's one part, which has no name and is no condition.
func begin() nest { return nest{{op: api.OTup, left: 1}} }

// pass is the nest behind a term; it is empty behind the last one of a filter.
func (in nest) pass(t api.Term) nest {
	h := &in[len(in)-1]
	h.left--
	if h.ahead != nil {
		h.ahead[t.Name] = h.left
	}
	if t.Many > 0 {
		return append(in, within(t))
	}
	for len(in) > 0 && in[len(in)-1].left == 0 {
		in = in[:len(in)-1]
	}
	return in
}

// within is a term as the holder of parts of which none has come yet.
func within(t api.Term) holder {
	h := holder{op: t.Op, left: t.Many}
	if t.Op == api.OObj {
		h.ahead = map[string]int{}
	}
	return h
}
