package parse

import (
	"strconv"
	"strings"

	"loupe/api"
	"loupe/path"
)

// steps tells whether what stands next begins a suffix, or a path's step.
func (r *reader) steps() bool {
	return r.left[0].Kind == api.TField || r.stands(api.TMark, "[")
}

func (r *reader) suffix() api.Term {
	if r.left[0].Kind == api.TField {
		return api.Term{Op: api.OField, S: r.take().S}
	}
	r.needs(api.TMark, "[")
	t := api.Term{Op: api.OPart, N: r.number()}
	if r.takes(api.TMark, ":") {
		t.Op = api.OTail
	}
	r.needs(api.TMark, "]")
	return t
}

// path reads a path, and tells its text.
func (r *reader) path() string {
	dot := r.takes(api.TMark, ".")
	if dot && !r.stands(api.TMark, "[") {
		return path.Text(nil)
	}
	if !dot && r.left[0].Kind != api.TField {
		panic(r.stuck())
	}
	var p api.Path
	for r.steps() {
		if len(p) == api.MaxSteps {
			panic(r.stuck())
		}
		p = append(p, r.step())
	}
	return path.Text(p)
}

func (r *reader) step() api.Step {
	if r.left[0].Kind == api.TField {
		return api.Step{Name: r.take().S}
	}
	r.needs(api.TMark, "[")
	n := r.number()
	r.needs(api.TMark, "]")
	return api.Step{Part: true, N: n}
}

// number reads that of a part.
func (r *reader) number() int {
	n, is := place(r.left[0])
	if !is {
		panic(r.stuck())
	}
	r.take()
	return n
}

// place is the number of a part that a token is, if it is one.
func place(t api.Tok) (int, bool) {
	// A number's last figure is not 0, so with a power below 0 it is not whole.
	if t.Kind != api.TNum || t.C.Neg || t.C.E < 0 {
		return 0, false
	}
	// Nought has no figures.
	n, err := strconv.Atoi("0" + t.C.S + strings.Repeat("0", t.C.E))
	if err != nil || n > api.MaxPart {
		return 0, false
	}
	return n, true
}
