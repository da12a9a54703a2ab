package atom_test

import (
	"math/rand"
	"strings"
	"testing"

	"loupe/api"
	"loupe/atom"
)

// wordedCmp is which of two nodes without parts is less, by the words: by kinds, by how many units numbers are, by bytes.
func wordedCmp(a, b api.Node) int {
	switch {
	case a.Kind != b.Kind:
		return third(a.Kind, b.Kind) - 1
	case a.Kind == api.Num:
		return units(a).Cmp(units(b))
	}
	return strings.Compare(a.S, b.S)
}

// wordedMember asks all atoms of a node that is right.
func wordedMember(mask int, l []api.Atom, n api.Node) bool {
	if mask/[]int{1, 2, 4, 8, 16}[n.Kind]%2 == 0 {
		return false
	}
	for _, a := range l {
		if !said[a.N][wordedCmp(n, a.C)+1] {
			return false
		}
	}
	return true
}

// wordedCandidates are all candidates, in their order.
func wordedCandidates(l []api.Atom) []api.Node {
	all := []api.Node{null, no, yes, zero}
	for _, a := range l {
		if a.C.Kind == api.Num {
			all = append(all, a.C)
			if n, ok := wordedBeside(a.C, true); ok {
				all = append(all, n)
			}
			if n, ok := wordedBeside(a.C, false); ok {
				all = append(all, n)
			}
		}
	}
	all = append(all, empty)
	for _, a := range l {
		if a.C.Kind == api.Str {
			all = append(all, a.C, word(a.C.S+"\x00"))
		}
	}
	return all
}

// wordedLeast is the first candidate that is a member, and its place among them; or none.
func wordedLeast(mask int, l []api.Atom) (api.Node, int, bool) {
	for i, n := range wordedCandidates(l) {
		if wordedMember(mask, l, n) {
			return n, i, true
		}
	}
	return api.Node{}, 0, false
}

// chain is a number and those behind it and ahead of it, rising, as far as there are any.
func chain(n api.Node, each int) []api.Node {
	l := []api.Node{n}
	for range each {
		if x, ok := wordedBeside(l[0], false); ok {
			l = append([]api.Node{x}, l...)
		}
		if x, ok := wordedBeside(l[len(l)-1], true); ok {
			l = append(l, x)
		}
	}
	return l
}

// near are nodes that stand close together, so that often nothing is between; around are those and their neighbours. Of the numbers and strings that atoms of these may leave, some are in around, if there are any at all.
func near(t *testing.T) (near, around []api.Node) {
	t.Helper()
	near, around = []api.Node{null, no, yes}, []api.Node{null, no, yes}
	for _, s := range []string{"0", "1", "-1", "1e-901", "-" + nines(100) + "e900", nines(100) + "e900"} {
		near = append(near, chain(number(t, s), 1)...)
		around = append(around, chain(number(t, s), 4)...)
	}
	for _, s := range []string{"", "a", "aa", "é"} {
		near = append(near, words(s, s+"\x00", s+"\x00\x00")...)
		around = append(around, words(s, s+"\x00", s+"\x00\x00", s+"\x00\x00\x00", s+"\x00\x00\x00\x00", s+"\x00\x01", s+"\x01", s+"b")...)
	}
	return near, around
}

// some are atoms of chance, with nodes of a list.
func some(r *rand.Rand, near []api.Node, most int) []api.Atom {
	var l []api.Atom
	from := r.Intn(len(near))
	for range r.Intn(most + 1) {
		at := r.Intn(len(near))
		if r.Intn(4) > 0 {
			// Mostly of one neighbourhood, where they meet.
			at = (from + r.Intn(4)) % len(near)
		}
		l = append(l, api.Atom{N: ways[r.Intn(6)], C: near[at]})
	}
	return l
}

// TestLeastWorded is P11.1: Least, of masks and atoms of chance, is the first candidate by the words that is a member by the words.
func TestLeastWorded(t *testing.T) {
	r := rand.New(rand.NewSource(13))
	near, _ := near(t)
	var none, of [40]int
	for range 25000 {
		mask, l := r.Intn(32), some(r, near, 7)
		if r.Intn(3) == 0 {
			for range r.Intn(3) {
				l = append(l, api.Atom{N: ways[r.Intn(6)], C: anyNumber(r)})
			}
		}
		want, place, ok := wordedLeast(mask, l)
		if n, is := atom.Least(mask, l); n != want || is != ok {
			t.Fatalf("%d, %+v: %+v %v, not %+v %v", mask, l, n, is, want, ok)
		}
		if !ok {
			none[len(l)]++
		} else {
			of[place]++
		}
	}
	for k := 1; k < 8; k++ {
		if none[k] < 300 {
			t.Errorf("of %d atoms, none: %d", k, none[k])
		}
	}
	for place := range 16 {
		if of[place] < 10 {
			t.Errorf("the candidate %d: %d", place, of[place])
		}
	}
}

// TestAll is P11.2: if Least tells none, none of the nodes around is a member, and none of all kinds; else what it tells is one.
func TestAll(t *testing.T) {
	r := rand.New(rand.NewSource(14))
	near, around := near(t)
	around = append(around, plain(t)...)
	none, one := 0, 0
	for range 12000 {
		mask, l := 1+r.Intn(31), some(r, near, 6)
		n, ok := atom.Least(mask, l)
		if ok {
			one++
			if !atom.Member(mask, l, n) || !wordedMember(mask, l, n) {
				t.Fatalf("%d, %+v: %+v is no member", mask, l, n)
			}
			continue
		}
		none++
		for _, n := range around {
			if wordedMember(mask, l, n) || atom.Member(mask, l, n) {
				t.Fatalf("%d, %+v: none, but %+v is a member", mask, l, n)
			}
		}
	}
	if none < 3000 || one < 3000 {
		t.Error(none, one)
	}
}

// TestAllFew is P11.2: of each mask of one kind, and of all, each one and each two atoms of a few nodes with nothing between them.
func TestAllFew(t *testing.T) {
	up1 := number(t, "1."+noughts(98)+"1")
	few := append([]api.Node{null, no, yes}, append(numbers(t, "0", "1e-1000", "1", nines(100)+"e900", "-"+nines(100)+"e900"), up1, empty, word("\x00"), word("a"), word("a\x00"))...)
	_, around := near(t)
	var all []api.Atom
	for _, c := range few {
		for _, how := range ways {
			all = append(all, api.Atom{N: how, C: c})
		}
	}
	none := 0
	for _, a := range all {
		for _, b := range all {
			l := []api.Atom{a, b}
			if a == b {
				l = l[:1]
			}
			for _, mask := range []int{1, 2, 4, 8, 16, 31} {
				if _, ok := atom.Least(mask, l); ok {
					continue
				}
				none++
				for _, n := range around {
					if atom.Member(mask, l, n) {
						t.Fatalf("%d, %+v: none, but %+v is a member", mask, l, n)
					}
				}
			}
		}
	}
	if none < 5000 {
		t.Error(none)
	}
}

// TestMemberWorded is P11.1: of chance, a node is a member just if the mask lets it in, and all atoms hold by the words.
func TestMemberWorded(t *testing.T) {
	r := rand.New(rand.NewSource(15))
	near, around := near(t)
	var told [2]int
	for range 30000 {
		mask, l, n := r.Intn(32), some(r, near, 3), around[r.Intn(len(around))]
		want := wordedMember(mask, l, n)
		if is := atom.Member(mask, l, n); is != want {
			t.Fatalf("%d, %+v of %+v: %v", mask, l, n, is)
		}
		if want {
			told[1]++
		} else {
			told[0]++
		}
	}
	if told[0] < 3000 || told[1] < 3000 {
		t.Error(told)
	}
}
