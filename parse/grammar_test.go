package parse_test

import (
	"maps"
	"math/rand"
	"slices"
	"strings"
	"testing"

	"loupe/api"
	"loupe/parse"
	"loupe/term"
)

// grammar is the chapter's, by its names: of each the ways it may go on. FIELD, WORD, STRING, NUMBER and INDEX (a number that may stand in brackets) are tokens, and so is all else that is none of its names.
func grammar() map[string][]string {
	return map[string][]string{
		"filter":   {"post posts"},
		"posts":    {"", "| post posts"},
		"post":     {"prim suffixes"},
		"suffixes": {"", "suffix suffixes"},
		"suffix":   {"FIELD", "[ INDEX ]", "[ INDEX : ]"},
		"prim": {
			".", "FIELD", "( filter )", "{ }", "{ entry entries }", "[ ]", "[ post items ]", "map ( filter )", "map_values ( filter )", "with_entries ( filter )",
			"select ( cond )", "group_by ( path )", "sort_by ( path )", "del ( path )", "to_entries", "from_entries", "reverse",
		},
		"entry":   {"WORD : post", "STRING : post"},
		"entries": {"", ", entry entries"},
		"items":   {"", ", post items"},
		"path":    {".", ". [ INDEX ] steps", "FIELD steps"},
		"steps":   {"", "FIELD steps", "[ INDEX ] steps"},
		"cond":    {"both ors"},
		"ors":     {"", "or both ors"},
		"both":    {"one ands"},
		"ands":    {"", "and one ands"},
		"one":     {"( cond )", "( cond | not )", "path == flat", "path != flat", "path < flat", "path <= flat", "path > flat", "path >= flat"},
		"flat":    {"null", "false", "true", "NUMBER", "STRING"},
	}
}

// walk is what may stand behind some tokens: rows of the grammar's names and tokens, each without its first one's ways, as texts.
type walk map[string]bool

// unfold lays a row into a walk, with a token as its first one, or nothing.
func (w walk) unfold(rules map[string][]string, row string) {
	first, rest, _ := strings.Cut(row, " ")
	ways, is := rules[first]
	if !is {
		w[row] = true
		return
	}
	for _, way := range ways {
		w.unfold(rules, strings.Trim(way+" "+rest, " "))
	}
}

// sorts are what a token is to the grammar.
func sorts(token string) []string {
	switch c := token[0]; {
	case c == '"':
		return []string{"STRING"}
	case c == '.' && len(token) > 1:
		return []string{"FIELD"}
	case c == '_' || 'a' <= c && c <= 'z':
		return []string{token, "WORD"}
	case c == '-' || '0' <= c && c <= '9':
		if slices.Contains([]string{"0", "1", "7", "1e2", "1000000"}, token) {
			return []string{"NUMBER", "INDEX"}
		}
		return []string{"NUMBER"}
	}
	return []string{token}
}

// behind is the walk behind one more token: empty, if that can't go on.
func (w walk) behind(rules map[string][]string, token string) walk {
	next := walk{}
	for row := range w {
		first, rest, _ := strings.Cut(row, " ")
		if first != "" && slices.Contains(sorts(token), first) {
			next.unfold(rules, rest)
		}
	}
	return next
}

// bracket is one that is open: its mark, whether it is counted, and the names of its entries so far.
type bracket struct {
	mark    string
	counted bool
	names   []string
}

// counted is how many of them are.
func counted(open []bracket) int {
	n := 0
	for _, b := range open {
		if b.counted {
			n++
		}
	}
	return n
}

// told is what the chapter says of some tokens: OK, or an error and the token that has it. What hangs on more than the grammar is told by the brackets around, not by the walk: paths are shorter than they may be.
func told(rules map[string][]string, tokens []string) (api.Errno, int) {
	w := walk{}
	w.unfold(rules, "filter")
	var open []bracket
	for i, token := range tokens {
		if w = w.behind(rules, token); len(w) == 0 {
			return api.ErrForm, i
		}
		last := "|"
		if i > 0 {
			last = tokens[i-1]
		}
		switch {
		case strings.Contains("([{", token):
			// A suffix, or a path's step, stands right behind what ends something.
			counts := token != "[" || slices.Contains([]string{"|", "(", "[", ",", ":"}, last)
			if counts && counted(open) >= api.MaxNest {
				return api.ErrDepth, i
			}
			open = append(open, bracket{mark: token, counted: counts})
		case strings.Contains(")]}", token):
			open = open[:len(open)-1]
		case last == "{" || last == "," && open[len(open)-1].mark == "{":
			names, name := &open[len(open)-1].names, strings.Trim(token, `"`)
			if slices.Contains(*names, name) {
				return api.ErrForm, i
			}
			*names = append(*names, name)
		}
	}
	if !w[""] {
		return api.ErrForm, len(tokens)
	}
	return api.OK, 0
}

// holds holds Parse of some tokens, with a blank between each two, against what the chapter says, and P9.3; it tells whether that is a filter.
func holds(t *testing.T, rules map[string][]string, tokens []string) bool {
	t.Helper()
	s := strings.Join(tokens, " ")
	want, nth := told(rules, tokens)
	f, at, err := parse.Parse(s)
	if want == api.OK {
		if err != api.OK || at != 0 || !term.Right(f) {
			t.Fatalf("%s: %s, %d at %d", s, short(f), err, at)
		}
		again(t, f)
		return true
	}
	place := len(s)
	if nth < len(tokens) {
		place = len(strings.Join(append(slices.Clone(tokens[:nth]), ""), " "))
	}
	if err != want || at != place || len(f) > 0 {
		t.Fatalf("%s: %s, %d at %d, not %d at %d", s, short(f), err, at, want, place)
	}
	return false
}

// TestGrammar is P9.1 and P9.3: of all rows of up to so many tokens, of some, it is told whether they are a filter, and if not, which of them can't go on. A row behind one that can't go on is not gone by: what stands behind has no part in it.
func TestGrammar(t *testing.T) {
	rules := grammar()
	for _, x := range []struct {
		most          int
		ahead, tokens string
	}{
		{4, "", `. | , : ( ) [ ] { } == != < <= > >= ? a map map_values with_entries select group_by sort_by del to_entries from_entries reverse not and or null true false .a ."b" "s" 0 1.5 -1`},
		{7, "", `. | [ ] .a 0 :`},
		{6, "", `( ) . | map .a [ ] 1`},
		{7, "{", `{ } a "a" b : . , [ ]`},
		{6, "[", `[ ] , . .a 0 ( ) |`},
		{8, "del (", `. .a [ ] 0 ) | 1.5`},
		{8, "select (", `.a == 1 ( ) | not and or`},
		{7, "select ( .", `.a [ 0 ] == >= "s" null and )`},
		{6, "select ( ( .a < null", `and or | not ( ) .a < true`},
		{6, "with_entries ( {", `a : . .a , "a" ( ) } | reverse`},
	} {
		filters, none := 0, 0
		tokens := strings.Fields(x.tokens)
		var longer func(row []string, w walk, more int)
		longer = func(row []string, w walk, more int) {
			if holds(t, rules, row) {
				filters++
			} else {
				none++
			}
			if more == 0 || len(w) == 0 {
				return
			}
			for _, token := range tokens {
				longer(append(row, token), w.behind(rules, token), more-1)
			}
		}
		w := walk{}
		w.unfold(rules, "filter")
		ahead := strings.Fields(x.ahead)
		for _, token := range ahead {
			w = w.behind(rules, token)
		}
		longer(ahead, w, x.most)
		if filters < 4 || none < 900 {
			t.Errorf("%s: %d filters, %d none", x.ahead, filters, none)
		}
	}
}

// TestSpoilt is P9.1: filters of chance, with a token taken away, one more, another one instead, two that have changed places, or the end off, are told as the grammar says; and so are those in as many brackets as may be, and more.
func TestSpoilt(t *testing.T) {
	rules := grammar()
	r := rand.New(rand.NewSource(1))
	others := strings.Fields(`. | , : ( ) [ ] { } == < ? a b "a" map select del reverse not and or null .a ."b" 0 1 1.5 -1`)
	count := map[bool]int{}
	for i := range 6000 {
		tokens, _ := maker{r, true}.filter(1 + r.Intn(5))
		if i%5 == 0 {
			tokens = deepened(r, tokens)
		}
		at := r.Intn(len(tokens))
		switch r.Intn(6) {
		case 0:
			tokens = slices.Delete(tokens, at, at+1)
		case 1:
			tokens = slices.Insert(tokens, at, someOf(r, others))
		case 2:
			tokens[at] = someOf(r, others)
		case 3:
			tokens[at], tokens[len(tokens)-1-at] = tokens[len(tokens)-1-at], tokens[at]
		case 4:
			tokens = tokens[:at]
		}
		count[holds(t, rules, tokens)]++
	}
	if count[true] < 600 || count[false] < 2000 {
		t.Error("too few of one sort:", count)
	}
}

// deepened are tokens of a filter in about as many brackets as may be.
func deepened(r *rand.Rand, tokens []string) []string {
	for range api.MaxNest - 3 + r.Intn(5) {
		around := strings.Fields(someOf(r, []string{"( X )", "[ X ]", "map ( X )", "{ a : ( X ) }", "( X | . )"}))
		at := slices.Index(around, "X")
		tokens = slices.Concat(around[:at], tokens, around[at+1:])
	}
	return tokens
}

func someOf[T any](r *rand.Rand, l []T) T { return l[r.Intn(len(l))] }

// TestWalk holds that the walk itself knows the chapter's names, each of which is asked for by another one.
func TestWalk(t *testing.T) {
	rules := grammar()
	asked := map[string]bool{"filter": true}
	for _, ways := range rules {
		for _, way := range ways {
			for _, name := range strings.Fields(way) {
				asked[name] = true
			}
		}
	}
	for name := range maps.Keys(rules) {
		if !asked[name] {
			t.Error(name, "is not asked for")
		}
	}
}
