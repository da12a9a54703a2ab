package parse

import "loupe/api"

// signs are how it is compared, as that is written, by how it is told.
var signs = [...]string{api.Eq: "==", api.Ne: "!=", api.Lt: "<", api.Le: "<=", api.Gt: ">", api.Ge: ">="}

// words are how values that are words are written, by their kinds.
var words = [...]string{api.Null: "null", api.False: "false", api.True: "true"}

func (r *reader) cond() api.Filter { return r.joined(api.POr, "or", r.both) }

func (r *reader) both() api.Filter { return r.joined(api.PAnd, "and", r.one) }

// joined reads conditions with a word between, which joins them to a term that does this.
func (r *reader) joined(op int, word string, read func() api.Filter) api.Filter {
	l := []api.Filter{read()}
	for r.takes(api.TWord, word) {
		l = append(l, read())
	}
	return fromLeft(op, l)
}

func (r *reader) one() api.Filter {
	if !r.stands(api.TMark, "(") {
		return of(api.Term{Op: api.PCmp, S: r.path(), N: r.sign(), C: r.flat()})
	}
	return r.within(func() api.Filter {
		c := r.cond()
		if !r.takes(api.TMark, "|") {
			return c
		}
		r.needs(api.TWord, "not")
		return of(api.Term{Op: api.PNot}, c)
	})
}

func (r *reader) sign() int {
	for n, sign := range signs {
		if r.takes(api.TMark, sign) {
			return n
		}
	}
	panic(r.stuck())
}

// flat reads what is compared with, a value without parts.
func (r *reader) flat() api.Node {
	switch t := r.left[0]; t.Kind {
	case api.TNum:
		return r.take().C
	case api.TText:
		return api.Node{Kind: api.Str, S: r.take().S}
	}
	for kind, word := range words {
		if r.takes(api.TWord, word) {
			return api.Node{Kind: kind}
		}
	}
	panic(r.stuck())
}
