package parse

import "loupe/api"

// reader is the tokens of a text that are not taken yet, and in how many brackets the next one is, of those that are counted.
type reader struct {
	left []api.Tok
	in   int
}

// take goes past the token that stands next.
func (r *reader) take() api.Tok {
	t := r.left[0]
	r.left = r.left[1:]
	return t
}

// stands tells whether a token of that kind, which says that, stands next.
func (r *reader) stands(kind int, s string) bool {
	return r.left[0].Kind == kind && r.left[0].S == s
}

// takes goes past such a token, if it is what stands next.
func (r *reader) takes(kind int, s string) bool {
	is := r.stands(kind, s)
	if is {
		r.take()
	}
	return is
}

func (r *reader) needs(kind int, s string) {
	if !r.takes(kind, s) {
		panic(r.stuck())
	}
}

// stuck is that what stands next can't go on.
func (r *reader) stuck() fault { return fault{api.ErrForm, r.left[0].At} }

// opens goes past a bracket that is counted.
func (r *reader) opens(bracket string) {
	at := r.left[0].At
	r.needs(api.TMark, bracket)
	if r.in == api.MaxNest {
		panic(fault{api.ErrDepth, at})
	}
	r.in++
}

// closes goes past the other one.
func (r *reader) closes(bracket string) {
	r.needs(api.TMark, bracket)
	r.in--
}

// within reads what stands in round brackets.
func (r *reader) within(read func() api.Filter) api.Filter {
	r.opens("(")
	f := read()
	r.closes(")")
	return f
}

// each reads as many as stand in brackets, with commas between.
func (r *reader) each(first, last string, read func() api.Filter) []api.Filter {
	var l []api.Filter
	r.opens(first)
	if !r.stands(api.TMark, last) {
		l = append(l, read())
		for r.takes(api.TMark, ",") {
			l = append(l, read())
		}
	}
	r.closes(last)
	return l
}
