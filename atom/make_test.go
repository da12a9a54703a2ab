package atom_test

import (
	"math/rand"
	"slices"
	"strings"
	"testing"

	"loupe/api"
	"loupe/num"
)

// number is the number that is written.
func number(t testing.TB, s string) api.Node {
	t.Helper()
	n, at, err := num.Read(s)
	if err != api.OK {
		t.Fatalf("%s: %d at %d", s, err, at)
	}
	return n
}

// numbers are the numbers that are written.
func numbers(t testing.TB, l ...string) []api.Node {
	t.Helper()
	var all []api.Node
	for _, s := range l {
		all = append(all, number(t, s))
	}
	return all
}

func word(s string) api.Node { return api.Node{Kind: api.Str, S: s} }

// words are the strings' nodes.
func words(l ...string) []api.Node {
	var all []api.Node
	for _, s := range l {
		all = append(all, word(s))
	}
	return all
}

// atoms are those that compare, each in its way, with its node.
func atoms(l ...any) []api.Atom {
	var all []api.Atom
	for i := 0; i < len(l); i += 2 {
		all = append(all, api.Atom{N: l[i].(int), C: l[i+1].(api.Node)})
	}
	return all
}

var (
	null  = api.Node{Kind: api.Null}
	no    = api.Node{Kind: api.False}
	yes   = api.Node{Kind: api.True}
	zero  = api.Node{Kind: api.Num}
	empty = api.Node{Kind: api.Str}
	ways  = []int{api.Eq, api.Ne, api.Lt, api.Le, api.Gt, api.Ge}
)

func nines(n int) string   { return strings.Repeat("9", n) }
func noughts(n int) string { return strings.Repeat("0", n) }

// plain are nodes without parts of each kind, rising, none twice: all that is less stands ahead.
func plain(t testing.TB) []api.Node {
	t.Helper()
	l := []api.Node{null, no, yes}
	l = append(l, numbers(t, "-"+nines(100)+"e900", "-1e999", "-10", "-9.9", "-1", "-1e-1000", "0", "1e-1000", "0.1", "1", "1."+noughts(98)+"1", "2", "10", "123", "1e999", nines(100)+"e900")...)
	return append(l, words("", "\x00", "\x00\x00", " ", "0", "A", "a", "a\x00", "a\x00b", "aa", "b", "\x7f", "é", "\uffff", "\U00010000")...)
}

// wrongNodes are nodes that are no right ones without parts and name.
func wrongNodes() []api.Node {
	l := []api.Node{
		{Kind: api.Arr}, {Kind: api.Obj}, {Kind: api.Arr, Many: 1}, {Kind: api.Obj, Many: 2}, {Kind: 7}, {Kind: 64}, {Kind: -1}, {Kind: -64}, {Kind: int(^uint(0) >> 1)}, {Kind: -int(^uint(0)>>1) - 1},
		{Kind: api.Null, S: "x"}, {Kind: api.False, Neg: true}, {Kind: api.True, E: 1},
		{Kind: api.Num, Neg: true}, {Kind: api.Num, E: 1}, {Kind: api.Num, S: "0"}, {Kind: api.Num, S: "10"}, {Kind: api.Num, S: "01"}, {Kind: api.Num, S: "1x1"}, {Kind: api.Num, S: "-1"},
		{Kind: api.Num, S: strings.Repeat("1", 101)}, {Kind: api.Num, S: "1", E: 1000}, {Kind: api.Num, S: "11", E: 999}, {Kind: api.Num, S: "1", E: -1001}, {Kind: api.Num, S: "1", E: int(^uint(0) >> 1)},
		{Kind: api.Str, S: "\xff"}, {Kind: api.Str, S: "a\xed\xa0\x80"}, {Kind: api.Str, Neg: true}, {Kind: api.Str, E: -1},
	}
	for _, n := range []api.Node{null, no, yes, zero, {Kind: api.Num, S: "1"}, empty, word("a")} {
		named, parted, lacking := n, n, n
		named.Name, parted.Many, lacking.Many = "a", 1, -1
		l = append(l, named, parted, lacking)
	}
	return l
}

// figures are of chance: few, many, as many as may be, nines, a one and noughts, or nearly so.
func figures(r *rand.Rand) string {
	long := 1 + r.Intn(5)
	switch r.Intn(4) {
	case 0:
		long = 97 + r.Intn(4)
	case 1:
		long = 1 + r.Intn(100)
	}
	s := []byte(strings.Repeat(string("0129"[r.Intn(4)]), long))
	for range r.Intn(3) {
		s[r.Intn(long)] = byte('0' + r.Intn(10))
	}
	if r.Intn(3) == 0 {
		for i := range s {
			s[i] = byte('0' + r.Intn(10))
		}
	}
	return string(s)
}

// anyNumber is a right number of chance, often one at a limit.
func anyNumber(r *rand.Rand) api.Node {
	for {
		s := figures(r)
		e := r.Intn(5) - 2
		switch r.Intn(5) {
		case 0:
			e = r.Intn(2001) - 1000
		case 1:
			e = -1000 + r.Intn(103)
		case 2:
			e = 1000 - len(s) - r.Intn(3)
		}
		if n, err := num.Make(r.Intn(2) == 0, s, e); err == api.OK {
			return n
		}
	}
}

// roomy is a list with marks in the room behind its end.
func roomy(l []api.Atom) []api.Atom {
	mark := api.Atom{N: 99, C: api.Node{Kind: 99, S: "mark"}}
	return append(slices.Clone(l), mark, mark, mark)[:len(l)]
}
