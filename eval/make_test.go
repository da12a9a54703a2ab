package eval_test

import (
	"slices"
	"strings"
	"testing"

	"loupe/api"
	"loupe/eval"
	"loupe/parse"
	"loupe/path"
	"loupe/term"
	"loupe/text"
	"loupe/val"
)

// of is a term with its parts behind it, laid by hand.
func of(t api.Term, parts ...api.Filter) api.Filter {
	t.Many = len(parts)
	return append(api.Filter{t}, slices.Concat(parts...)...)
}

// does is a term that has nothing beside its parts.
func does(op int, parts ...api.Filter) api.Filter { return of(api.Term{Op: op}, parts...) }

// says is a term without parts that has a text.
func says(op int, s string) api.Filter { return of(api.Term{Op: op, S: s}) }

// counts is a term without parts that has a number.
func counts(op, n int) api.Filter { return of(api.Term{Op: op, N: n}) }

func id() api.Filter               { return does(api.OId) }
func field(name string) api.Filter { return says(api.OField, name) }

func compare(s string, n int, c api.Node) api.Filter {
	return of(api.Term{Op: api.PCmp, S: s, N: n, C: c})
}

// named is a filter as a part of that name.
func named(name string, f api.Filter) api.Filter {
	f = slices.Clone(f)
	f[0].Name = name
	return f
}

// read is what a text is of.
func read[T any](t testing.TB, s string, as func(s string) (T, int, api.Errno)) T {
	t.Helper()
	x, at, err := as(s)
	if err != api.OK {
		t.Fatalf("%s: %d at %d", s, err, at)
	}
	return x
}

func filterOf(t testing.TB, s string) api.Filter { t.Helper(); return read(t, s, parse.Parse) }
func valueOf(t testing.TB, s string) api.Val     { t.Helper(); return read(t, s, text.Parse) }
func pathOf(t testing.TB, s string) api.Path     { t.Helper(); return read(t, s, path.Read) }

// condOf is the condition that a text is of.
func condOf(t testing.TB, s string) api.Filter {
	t.Helper()
	return term.Parts(filterOf(t, "select("+s+")"))[0]
}

// Texts for what is told beside an error.
const (
	none  = "none"
	wrong = "error"
)

// told is what a call has told of a value, as a text. All that is told is held to be right: P10.2.
func told(t testing.TB, v api.Val, err api.Errno) string {
	t.Helper()
	switch {
	case err == api.OK && val.Right(v):
		return text.Compact(v)
	case err == api.ErrNone && v == nil:
		return none
	case err == api.ErrType && v == nil:
		return wrong
	}
	t.Errorf("told, and not right: %+v, %d", v, err)
	return ""
}

// gives holds what a filter gives of a value: a text, none or wrong.
func gives(t testing.TB, f, v, want string) {
	t.Helper()
	x, err := eval.Eval(filterOf(t, f), valueOf(t, v))
	if got := told(t, x, err); got != want {
		t.Errorf("%s of %s: %s, not %s", f, v, got, want)
	}
}

// holds holds whether a condition holds of a value: yes, no, or wrong.
func holds(t testing.TB, p, v, want string) {
	t.Helper()
	if got := toldOf(eval.Holds(condOf(t, p), valueOf(t, v))); got != want {
		t.Errorf("%s of %s: %s, not %s", p, v, got, want)
	}
}

// Texts for whether a condition holds.
const (
	yes = "yes"
	no  = "no"
)

func toldOf(is bool, err api.Errno) string {
	switch {
	case err == api.OK && is:
		return yes
	case err == api.OK:
		return no
	case err == api.ErrType && !is:
		return wrong
	}
	return "yes, beside an error, or another one"
}

// repeated is a text as often, with commas between.
func repeated(s string, many int) string {
	return strings.Join(slices.Repeat([]string{s}, many), ",")
}
