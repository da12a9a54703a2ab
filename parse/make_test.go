package parse_test

import (
	"slices"
	"strings"
	"testing"

	"loupe/api"
	"loupe/lex"
	"loupe/parse"
	"loupe/term"
)

// of is a term with its parts behind it, laid by hand, without the calls that are tested.
func of(t api.Term, parts ...api.Filter) api.Filter {
	t.Many = len(parts)
	return append(api.Filter{t}, slices.Concat(parts...)...)
}

// does is a term that has nothing beside its parts.
func does(op int, parts ...api.Filter) api.Filter { return of(api.Term{Op: op}, parts...) }

// says is a term without parts that has a text.
func says(op int, s string) api.Filter { return of(api.Term{Op: op, S: s}) }

func id() api.Filter               { return does(api.OId) }
func field(name string) api.Filter { return says(api.OField, name) }
func part(n int) api.Filter        { return of(api.Term{Op: api.OPart, N: n}) }
func tail(n int) api.Filter        { return of(api.Term{Op: api.OTail, N: n}) }
func list(l ...api.Filter) api.Filter {
	return does(api.OTup, l...)
}

// pipe is one filter after another, none of which is a pipe.
func pipe(l ...api.Filter) api.Filter {
	if len(l) == 1 {
		return l[0]
	}
	return does(api.OPipe, l[0], pipe(l[1:]...))
}

// entries are what with_entries is, as it is piped.
func entries(f api.Filter) []api.Filter {
	return []api.Filter{does(api.OToE), does(api.OMap, f), does(api.OFromE)}
}

// named is a filter as a part of that name.
func named(name string, f api.Filter) api.Filter {
	f = slices.Clone(f)
	f[0].Name = name
	return f
}

func object(l ...api.Filter) api.Filter { return does(api.OObj, l...) }

func where(c api.Filter) api.Filter  { return does(api.OWhere, c) }
func not(c api.Filter) api.Filter    { return does(api.PNot, c) }
func and(c, d api.Filter) api.Filter { return does(api.PAnd, c, d) }
func or(c, d api.Filter) api.Filter  { return does(api.POr, c, d) }

func compare(path string, n int, c api.Node) api.Filter {
	return of(api.Term{Op: api.PCmp, S: path, N: n, C: c})
}

func number(figures string) api.Node { return api.Node{Kind: api.Num, S: figures} }
func str(s string) api.Node          { return api.Node{Kind: api.Str, S: s} }

// tells holds that a text is of that filter, and P9.3.
func tells(t *testing.T, s string, want api.Filter) {
	t.Helper()
	f, at, err := parse.Parse(s)
	if err != api.OK || at != 0 || !slices.Equal(f, want) {
		t.Errorf("%.300q: %s, %d at %d, not %s", s, short(f), err, at, short(want))
		return
	}
	if !term.Right(f) {
		t.Errorf("%.300q: not right: %s", s, short(f))
	}
	again(t, f)
}

// again holds that a filter's text is parsed as it: P9.2, and P9.3. If that has more brackets in brackets than it may, ErrDepth is told instead, at the first one that is in too many.
func again(t *testing.T, f api.Filter) {
	t.Helper()
	s := term.Text(f)
	if place := tooDeep(t, s); place >= 0 {
		refuses(t, s, api.ErrDepth, place)
		return
	}
	if g, at, err := parse.Parse(s); err != api.OK || at != 0 || !slices.Equal(f, g) {
		t.Errorf("%.300q: %s, %d at %d", s, short(g), err, at)
	}
}

// tooDeep is where in a filter's text the first bracket is that is in too many others: -1, if there is none. There a part's brackets, which are not counted, stand right behind a dot, or within a path.
func tooDeep(t *testing.T, s string) int {
	t.Helper()
	tokens, _, err := lex.Lex(s)
	if err != api.OK {
		t.Fatalf("%.300q: %d", s, err)
	}
	in := 0
	for i, token := range tokens {
		switch {
		case token.Kind != api.TMark || !strings.Contains("()[]{}", token.S):
		case token.S == "[" && tokens[i+1].Kind == api.TNum, token.S == "]" && (tokens[i-1].Kind == api.TNum || tokens[i-1].S == ":"):
		case strings.Contains(")]}", token.S):
			in--
		case in >= api.MaxNest:
			return token.At
		default:
			in++
		}
	}
	return -1
}

// refuses holds that a text is of no filter, why, and where.
func refuses(t *testing.T, s string, want api.Errno, place int) {
	t.Helper()
	if f, at, err := parse.Parse(s); err != want || at != place || len(f) > 0 {
		t.Errorf("%.300q: %s, %d at %d, not %d at %d", s, short(f), err, at, want, place)
	}
}

// short is a filter for a message.
func short(f api.Filter) string {
	s := term.Text(f)
	return s[:min(len(s), 300)]
}
