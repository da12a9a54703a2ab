package parse_test

import (
	"fmt"
	"math/rand"
	"slices"
	"strings"
	"testing"

	"loupe/api"
	"loupe/quote"
	"loupe/term"
	"loupe/text"
)

// maker makes filters of chance, each as tokens and as what they are; a plain one as tokens that the walk knows.
type maker struct {
	*rand.Rand
	plain bool
}

func (m maker) filter(room int) ([]string, api.Filter) {
	tokens, pieces := m.post(room)
	for m.Intn(3) == 0 {
		more, l := m.post(room / 2)
		tokens, pieces = append(append(tokens, "|"), more...), append(pieces, l...)
	}
	return tokens, pipe(pieces...)
}

// post is the tokens of one, and those filters of which it is piped.
func (m maker) post(room int) ([]string, []api.Filter) {
	tokens, pieces := m.prim(room)
	dot := len(tokens) == 1 && tokens[0] == "."
	for first := true; m.Intn(3) == 0; first = false {
		more, f := m.suffix()
		if dot && first && more[0] == "[" {
			pieces = nil
		}
		tokens, pieces = append(tokens, more...), append(pieces, f)
	}
	return tokens, pieces
}

func (m maker) suffix() ([]string, api.Filter) {
	if m.Intn(2) == 0 {
		token, name := m.field()
		return []string{token}, field(name)
	}
	token, n := m.index()
	if m.Intn(2) == 0 {
		return []string{"[", token, "]"}, part(n)
	}
	return []string{"[", token, ":", "]"}, tail(n)
}

// within is a word, and what stands behind it in brackets.
func within(word string, tokens []string) []string {
	return append(append([]string{word, "("}, tokens...), ")")
}

func (m maker) prim(room int) ([]string, []api.Filter) {
	if room <= 0 || m.Intn(6) == 0 {
		return m.bare()
	}
	switch m.Intn(8) {
	case 0:
		tokens, f := m.filter(room - 1)
		return append(append([]string{"("}, tokens...), ")"), unpiped(f)
	case 1, 2:
		return m.object(room - 1)
	case 3:
		return m.list(room - 1)
	case 4:
		tokens, f := m.filter(room - 1)
		return within("map", tokens), []api.Filter{does(api.OMap, f)}
	case 5:
		tokens, f := m.filter(room - 1)
		return within("map_values", tokens), []api.Filter{does(api.OVals, f)}
	case 6:
		tokens, f := m.filter(room - 1)
		return within("with_entries", tokens), entries(f)
	}
	tokens, c := m.cond(room)
	return within("select", tokens), []api.Filter{where(c)}
}

// unpiped are the filters of which one is piped.
func unpiped(f api.Filter) []api.Filter {
	var l []api.Filter
	for f[0].Op == api.OPipe {
		parts := term.Parts(f)
		l, f = append(l, parts[0]), parts[1]
	}
	return append(l, f)
}

func (m maker) bare() ([]string, []api.Filter) {
	switch m.Intn(8) {
	case 0, 1:
		return []string{"."}, []api.Filter{id()}
	case 2, 3:
		token, name := m.field()
		return []string{token}, []api.Filter{field(name)}
	case 4:
		tokens, s := m.path()
		k := m.Intn(3)
		return within([]string{"group_by", "sort_by", "del"}[k], tokens), []api.Filter{says([]int{api.OGroup, api.OSort, api.ODel}[k], s)}
	case 5:
		k := m.Intn(3)
		return []string{[]string{"to_entries", "from_entries", "reverse"}[k]}, []api.Filter{does([]int{api.OToE, api.OFromE, api.ORev}[k])}
	case 6:
		return []string{"[", "]"}, []api.Filter{list()}
	}
	return []string{"{", "}"}, []api.Filter{object()}
}

func (m maker) list(room int) ([]string, []api.Filter) {
	tokens := []string{"["}
	var parts []api.Filter
	for range m.Intn(4) {
		more, pieces := m.post(room / 2)
		tokens, parts = append(append(tokens, more...), ","), append(parts, pipe(pieces...))
	}
	if len(parts) > 0 {
		tokens = tokens[:len(tokens)-1]
	}
	return append(tokens, "]"), []api.Filter{list(parts...)}
}

func (m maker) object(room int) ([]string, []api.Filter) {
	tokens := []string{"{"}
	var parts []api.Filter
	var names []string
	for range m.Intn(4) {
		token, name := m.name()
		if slices.Contains(names, name) {
			continue
		}
		more, pieces := m.post(room / 2)
		tokens = append(append(append(tokens, token, ":"), more...), ",")
		names, parts = append(names, name), append(parts, named(name, pipe(pieces...)))
	}
	if len(parts) > 0 {
		tokens = tokens[:len(tokens)-1]
	}
	return append(tokens, "}"), []api.Filter{object(parts...)}
}

// someNames are names, the first ones of which are words.
func someNames() []string {
	return []string{"a", "b", "_9", "map", "not", "null", "Zz", "", "9", "a b", "é", `"`, "\n", ".", `\`, "\x00"}
}

// words is how many of them are words.
const words = 7

func (m maker) name() (token, name string) {
	if m.plain {
		name = someOf(m.Rand, []string{"a", "b", "c"})
		return someOf(m.Rand, []string{name, `"` + name + `"`}), name
	}
	k := m.Intn(len(someNames()))
	name = someNames()[k]
	if k < words && m.Intn(2) == 0 {
		return name, name
	}
	return m.quoted(name), name
}

// quoted is a string as it is written, now and then with its first rune as a number.
func (m maker) quoted(s string) string {
	for _, c := range s {
		if m.Intn(3) == 0 {
			return fmt.Sprintf(`"\u%04x`, c) + quote.Quote(s[len(string(c)):])[1:]
		}
		break
	}
	return quote.Quote(s)
}

func (m maker) field() (token, name string) {
	if m.plain {
		return someOf(m.Rand, []string{".a", `."b"`}), "a"
	}
	token, name = m.name()
	return "." + token, name
}

func (m maker) index() (string, int) {
	if m.plain {
		return someOf(m.Rand, []string{"0", "1", "7", "1e2"}), 0
	}
	written := map[string]int{"0": 0, "-0": 0, "0e3": 0, "1": 1, "7": 7, "10": 10, "1e1": 10, "10.0": 10, "100e-1": 10, "999999": 999999, "1000000": 1000000, "1e6": 1000000, "123": 123}
	// The order of a map counts for nothing.
	var l []string
	for s := range written {
		l = append(l, s)
	}
	slices.Sort(l)
	s := someOf(m.Rand, l)
	return s, written[s]
}

// path is a path's tokens, and its text.
func (m maker) path() ([]string, string) {
	var tokens []string
	var s string
	for range m.Intn(4) {
		if m.Intn(2) == 0 {
			token, name := m.field()
			tokens, s = append(tokens, token), s+term.Text(field(name))
			continue
		}
		token, n := m.index()
		tokens, s = append(tokens, "[", token, "]"), s+fmt.Sprintf("[%d]", n)
	}
	if len(tokens) == 0 || tokens[0] == "[" {
		return append([]string{"."}, tokens...), "." + s
	}
	return tokens, s
}

func (m maker) cond(room int) ([]string, api.Filter) { return m.joined(room, "or", or, m.both) }

func (m maker) both(room int) ([]string, api.Filter) { return m.joined(room, "and", and, m.one) }

func (m maker) joined(room int, word string, join func(c, d api.Filter) api.Filter, one func(room int) ([]string, api.Filter)) ([]string, api.Filter) {
	tokens, c := one(room)
	for m.Intn(3) == 0 {
		more, d := one(room / 2)
		tokens, c = append(append(tokens, word), more...), join(c, d)
	}
	return tokens, c
}

func (m maker) one(room int) ([]string, api.Filter) {
	if room <= 0 || m.Intn(2) == 0 {
		tokens, s := m.path()
		n := m.Intn(6)
		token, c := m.flat()
		return append(tokens, strings.Fields("== != < <= > >=")[n], token), compare(s, n, c)
	}
	tokens, c := m.cond(room - 1)
	tokens = append([]string{"("}, tokens...)
	if m.Intn(2) == 0 {
		return append(tokens, ")"), c
	}
	return append(tokens, "|", "not", ")"), not(c)
}

func (m maker) flat() (string, api.Node) {
	if m.plain {
		return someOf(m.Rand, []string{"null", "true", "1", "1.5", "-1", `"a"`}), api.Node{}
	}
	if m.Intn(2) == 0 {
		s := someOf(m.Rand, someNames())
		return m.quoted(s), str(s)
	}
	s := someOf(m.Rand, []string{"null", "false", "true", "0", "-0.0", "1", "-1.50", "2e3", "1e-1000", "1e999", "0.001", "123456789012345678901234567890"})
	v, _, _ := text.Parse(s)
	return s, v[0]
}

// written are tokens one behind the other, with blanks of chance between, or none where there need be none.
func (m maker) written(tokens []string) string {
	var b strings.Builder
	last := ""
	for _, token := range append(tokens, "") {
		blank := someOf(m.Rand, []string{"", "", "", " ", "\t", "\n", "\r", "  \r\n"})
		if blank == "" && (lettered(last, true) && lettered(token, false) || last == "." && lettered(token+`"`, false) || last == "." && token != "" && token[0] == '"') {
			blank = " "
		}
		b.WriteString(blank)
		b.WriteString(token)
		last = token
	}
	return b.String()
}

// lettered tells whether a token's last byte, or its first one, is one of a word's or a number's.
func lettered(token string, last bool) bool {
	if token == "" {
		return false
	}
	c := token[0]
	if last {
		c = token[len(token)-1]
	}
	return c == '_' || c == '-' || '0' <= c && c <= '9' || 'a' <= c && c <= 'z' || 'A' <= c && c <= 'Z'
}

// TestMade is P9.1, P9.2 and P9.3: filters of chance, however they are written, are parsed as what the chapter says they are; and their texts are parsed as they.
func TestMade(t *testing.T) {
	m := maker{Rand: rand.New(rand.NewSource(2))}
	seen := map[int]int{}
	long := 0
	for range 20000 {
		tokens, want := m.filter(m.Intn(8))
		tells(t, m.written(tokens), want)
		for _, x := range want {
			seen[x.Op]++
		}
		long = max(long, len(want))
		if t.Failed() {
			return
		}
	}
	for op := api.OId; op <= api.PNot; op++ {
		if seen[op] < 800 {
			t.Error("too few of", op, seen[op])
		}
	}
	if long < 60 {
		t.Error("none is long:", long)
	}
}
