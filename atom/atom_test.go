package atom_test

import (
	"testing"

	"loupe/api"
	"loupe/atom"
)

const huge = int(^uint(0) >> 1)

// TestRight is P11.1: atoms are of each way to compare, with each node without parts that is right; there are no others.
func TestRight(t *testing.T) {
	for _, c := range plain(t) {
		for how, want := range map[int]bool{-huge - 1: false, -1: false, 0: true, 1: true, 2: true, 3: true, 4: true, 5: true, 6: false, 16: false, huge: false} {
			if a := (api.Atom{N: how, C: c}); atom.Right(a) != want {
				t.Errorf("%+v: %v", a, !want)
			}
		}
	}
	for _, c := range wrongNodes() {
		for _, how := range append([]int{-1, 6}, ways...) {
			if a := (api.Atom{N: how, C: c}); atom.Right(a) {
				t.Errorf("%+v is right", a)
			}
		}
	}
}

// said tells, of each way to compare, whether it holds of less, of the same, and of what is greater.
var said = [6][3]bool{
	api.Eq: {false, true, false},
	api.Ne: {true, false, true},
	api.Lt: {true, false, false},
	api.Le: {true, true, false},
	api.Gt: {false, false, true},
	api.Ge: {false, true, true},
}

// third is 0, 1 or 2, as i is less than k, the same, or greater.
func third(i, k int) int {
	switch {
	case i < k:
		return 0
	case i > k:
		return 2
	}
	return 1
}

// TestHolds is P11.1: each way to compare, with a node of each kind, of nodes of each kind.
func TestHolds(t *testing.T) {
	l := plain(t)
	for k, c := range l {
		for i, n := range l {
			for _, how := range ways {
				a := api.Atom{N: how, C: c}
				if want := said[how][third(i, k)]; atom.Holds(a, n) != want {
					t.Errorf("%+v of %+v: %v", a, n, !want)
				}
			}
		}
	}
}

// TestTurn is P11.1: what is turned holds of just that of which it did not; twice is as without.
func TestTurn(t *testing.T) {
	for _, x := range [][2]int{{api.Eq, api.Ne}, {api.Lt, api.Ge}, {api.Le, api.Gt}} {
		if a, b := atom.Turn(x[0]), atom.Turn(x[1]); a != x[1] || b != x[0] {
			t.Errorf("%d: %d; %d: %d", x[0], a, x[1], b)
		}
	}
	l := plain(t)
	for _, how := range ways {
		for _, c := range l {
			for _, n := range l {
				if atom.Holds(api.Atom{N: how, C: c}, n) == atom.Holds(api.Atom{N: atom.Turn(how), C: c}, n) {
					t.Errorf("%d, turned: %+v, of %+v", how, c, n)
				}
			}
		}
	}
}

// TestMasks is P11.1: without atoms, members are the nodes of the kinds that the mask lets in, for each mask; of 0 there are none.
func TestMasks(t *testing.T) {
	l := plain(t)
	for mask := range 32 {
		for _, n := range l {
			want := mask/[]int{1, 2, 4, 8, 16}[n.Kind]%2 == 1
			if atom.Member(mask, nil, n) != want || atom.Member(mask, []api.Atom{}, n) != want {
				t.Errorf("%d lets %+v in: %v", mask, n, !want)
			}
			for _, how := range ways {
				if is := atom.Member(mask, atoms(how, n), n); is != (want && said[how][1]) {
					t.Errorf("%d, %d, of %+v itself: %v", mask, how, n, is)
				}
			}
		}
	}
}

// TestNoMembers is P11.1: nodes with parts, with a name, or not right, are no members, whatever the mask is, without atoms and with some that hold of nearly all.
func TestNoMembers(t *testing.T) {
	for mask := range 32 {
		for _, n := range wrongNodes() {
			for _, l := range [][]api.Atom{nil, atoms(api.Ge, null), atoms(api.Ne, word("x"), api.Gt, null), atoms(api.Eq, n)} {
				if atom.Member(mask, l, n) {
					t.Errorf("%d: %+v is a member, with %+v", mask, n, l)
				}
			}
		}
	}
}

// TestMember is P11.1: all atoms must hold, those of other kinds, too.
func TestMember(t *testing.T) {
	one, two, three := number(t, "1"), number(t, "2"), number(t, "3")
	for i, x := range []struct {
		mask int
		l    []api.Atom
		n    api.Node
		want bool
	}{
		{8, atoms(api.Ge, one), two, true},
		{8, atoms(api.Ge, one), one, true},
		{8, atoms(api.Ge, one), zero, false},
		{8, atoms(api.Gt, one, api.Lt, three), two, true},
		{8, atoms(api.Gt, one, api.Lt, three), one, false},
		{8, atoms(api.Gt, one, api.Lt, three), three, false},
		{8, atoms(api.Gt, one, api.Lt, three, api.Ne, two), two, false},
		{8, atoms(api.Ne, two, api.Gt, one, api.Lt, three), two, false},
		{8, atoms(api.Gt, one, api.Ne, two, api.Lt, three), number(t, "2.5"), true},
		{8, atoms(api.Eq, two, api.Eq, three), two, false},
		{8, atoms(api.Eq, two, api.Eq, three), three, false},
		{8, atoms(api.Eq, two, api.Eq, two), two, true},
		{24, atoms(api.Gt, two), empty, true},
		{8, atoms(api.Gt, two), empty, false},
		{24, atoms(api.Lt, word("a")), two, true},
		{16, atoms(api.Lt, word("a")), two, false},
		{31, atoms(api.Lt, no), null, true},
		{31, atoms(api.Lt, no), no, false},
		{31, atoms(api.Ge, no, api.Le, yes), yes, true},
		{31, atoms(api.Ge, no, api.Le, yes), zero, false},
		{31, atoms(api.Ne, null), null, false},
		{31, atoms(api.Ne, null), no, true},
		{16, atoms(api.Gt, word("a"), api.Lt, word("b")), word("a\x00"), true},
		{16, atoms(api.Gt, word("a"), api.Lt, word("b")), word("a"), false},
		{0, atoms(api.Eq, two), two, false},
		{23, atoms(api.Eq, two), two, false},
		{8, atoms(api.Eq, two), two, true},
	} {
		if is := atom.Member(x.mask, x.l, x.n); is != x.want {
			t.Errorf("%d: %v", i, is)
		}
	}
}
