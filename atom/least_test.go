package atom_test

import (
	"strings"
	"testing"

	"loupe/api"
	"loupe/atom"
)

// least holds Least's answer against the one that is asked for, or against none.
func least(t *testing.T, mask int, l []api.Atom, want *api.Node) {
	t.Helper()
	n, ok := atom.Least(mask, l)
	switch {
	case want == nil && (ok || n != (api.Node{})):
		t.Errorf("%d, %+v: %+v, %v, not none", mask, l, n, ok)
	case want != nil && (!ok || n != *want):
		t.Errorf("%d, %+v: %+v, %v, not %+v", mask, l, n, ok, *want)
	}
}

func at(n api.Node) *api.Node { return &n }

// TestLeastMasks is P11.1: without atoms the first candidate of a kind that the mask lets in, for each mask; of 0 none.
func TestLeastMasks(t *testing.T) {
	first := []*api.Node{&null, &no, &yes, &zero, &empty}
	least(t, 0, nil, nil)
	least(t, 0, atoms(api.Ge, null, api.Ne, zero), nil)
	for mask := 1; mask < 32; mask++ {
		kind := 0
		for mask/[]int{1, 2, 4, 8, 16}[kind]%2 == 0 {
			kind++
		}
		least(t, mask, nil, first[kind])
		least(t, mask, []api.Atom{}, first[kind])
	}
}

// TestLeastInOrder is P11.1: what is told is the first one in the candidates' order, where many are members.
func TestLeastInOrder(t *testing.T) {
	one, two := number(t, "1"), number(t, "2")
	up1, down1 := number(t, "1."+noughts(98)+"1"), number(t, "0."+nines(100))
	up2, down2 := number(t, "2."+noughts(98)+"1"), number(t, "1."+nines(99))
	for i, x := range []struct {
		mask int
		l    []api.Atom
		want api.Node
	}{
		{31, atoms(api.Ne, null), no},
		{31, atoms(api.Ne, null, api.Ne, no), yes},
		{31, atoms(api.Gt, yes), zero},
		{31, atoms(api.Gt, no), yes},
		{30, atoms(api.Ge, null), no},
		{28, atoms(api.Ge, word("x")), word("x")},
		{31, atoms(api.Gt, one), up1},
		{31, atoms(api.Ge, one), one},
		// 0 is ahead of all numbers of atoms; of an atom its number is first, then the one above, then the one below.
		{8, atoms(api.Le, two, api.Ge, number(t, "-1")), zero},
		{8, atoms(api.Ne, zero, api.Le, two), number(t, "1e-1000")},
		{8, atoms(api.Le, two, api.Ne, zero), two},
		{8, atoms(api.Ge, one, api.Le, two), one},
		{8, atoms(api.Le, two, api.Ge, one), two},
		{8, atoms(api.Gt, one, api.Le, two), up1},
		{8, atoms(api.Le, two, api.Gt, one), two},
		{8, atoms(api.Lt, two, api.Gt, one), down2},
		{8, atoms(api.Gt, one, api.Lt, two), up1},
		{8, atoms(api.Gt, one, api.Ne, up1), number(t, "1."+noughts(98)+"2")},
		{8, atoms(api.Gt, one, api.Ne, up1, api.Ne, two), number(t, "1."+noughts(98)+"2")},
		{8, atoms(api.Gt, one, api.Ne, two, api.Ne, up1), up2},
		{8, atoms(api.Lt, one, api.Ne, zero), down1},
		{8, atoms(api.Ne, one, api.Ne, zero), up1},
		{8, atoms(api.Ne, one, api.Ne, zero, api.Ne, up1), down1},
		{8, atoms(api.Ne, zero), number(t, "1e-1000")},
		{8, atoms(api.Ne, zero, api.Ne, number(t, "1e-1000")), number(t, "-1e-1000")},
		{8, atoms(api.Lt, zero), number(t, "-1e-1000")},
		{8, atoms(api.Gt, number(t, nines(99)+"8e900")), number(t, nines(100)+"e900")},
		{8, atoms(api.Lt, number(t, "-"+nines(99)+"8e900")), number(t, "-"+nines(100)+"e900")},
		{8, atoms(api.Eq, number(t, nines(100)+"e900")), number(t, nines(100)+"e900")},
		{8, atoms(api.Ne, number(t, nines(100)+"e900"), api.Ge, number(t, "7e999"), api.Ne, number(t, "7e999")), number(t, nines(99)+"8e900")},
		// Numbers are ahead of strings, the empty one ahead of those of atoms; then each, and that with a byte 0 behind.
		{24, atoms(api.Ge, word("a"), api.Ne, word("b")), word("a")},
		{24, atoms(api.Ne, word("a"), api.Ne, zero), number(t, "1e-1000")},
		{16, atoms(api.Ne, word("a")), empty},
		{16, atoms(api.Ne, empty), word("\x00")},
		{16, atoms(api.Ne, word("a"), api.Ne, empty), word("a\x00")},
		{16, atoms(api.Ne, empty, api.Ne, word("a")), word("\x00")},
		{16, atoms(api.Ne, word("b"), api.Gt, word("a")), word("b\x00")},
		{16, atoms(api.Gt, word("a"), api.Ne, word("b")), word("a\x00")},
		{16, atoms(api.Lt, word("b"), api.Gt, word("a")), word("a\x00")},
		{16, atoms(api.Le, word("b"), api.Gt, word("a")), word("b")},
		{16, atoms(api.Gt, word("é"), api.Ne, word("é\x00")), word("é\x00\x00")},
		{16, atoms(api.Gt, word("\U0010ffff")), word("\U0010ffff\x00")},
		{16, atoms(api.Gt, word("a"), api.Lt, word("a\x00\x00")), word("a\x00")},
		// Atoms of one kind tell of members of another.
		{24, atoms(api.Gt, number(t, "5"), api.Ne, empty), number(t, "5."+noughts(98)+"1")},
		{16, atoms(api.Gt, number(t, "5")), empty},
		{8, atoms(api.Lt, word("")), zero},
		{7, atoms(api.Lt, zero), null},
		{6, atoms(api.Lt, zero, api.Ne, no), yes},
		{24, atoms(api.Gt, number(t, nines(100)+"e900")), empty},
	} {
		least(t, x.mask, x.l, &x.want)
		if !atom.Member(x.mask, x.l, x.want) {
			t.Errorf("%d: what is asked for is no member", i)
		}
	}
}

// TestLeastLast is P11.1: a member that is only of the last candidates, behind all others, which are none.
func TestLeastLast(t *testing.T) {
	// Of three atoms only the last one's number, then only the one above it, then only the one below it.
	a, b, c := number(t, "1"), number(t, "3"), number(t, "7")
	downC := number(t, "6."+nines(99))
	least(t, 8, atoms(api.Gt, a, api.Gt, b, api.Eq, c), &c)
	upC := number(t, "7."+noughts(98)+"1")
	least(t, 8, atoms(api.Ne, a, api.Gt, b, api.Ne, number(t, "3."+noughts(98)+"1"), api.Gt, number(t, "3."+noughts(98)+"2"), api.Ne, number(t, "3."+noughts(98)+"3"), api.Gt, c), &upC)
	least(t, 8, atoms(api.Ge, downC, api.Lt, c), &downC)
	least(t, 8, atoms(api.Lt, number(t, "-3"), api.Ne, number(t, "-3."+noughts(98)+"1"), api.Lt, number(t, "-7")), at(number(t, "-7."+noughts(98)+"1")))
	// Only the last string, and only that with a byte 0 behind.
	least(t, 31, atoms(api.Gt, yes, api.Gt, c, api.Ne, empty, api.Ne, word("\x00"), api.Gt, word("a"), api.Eq, word("z")), at(word("z")))
	least(t, 31, atoms(api.Gt, c, api.Ge, empty, api.Gt, word("a"), api.Ne, word("a\x00"), api.Ne, word("a\x00\x00"), api.Gt, word("z")), at(word("z\x00")))
	least(t, 16, atoms(api.Ne, empty, api.Ne, word("\x00"), api.Ne, word("\x00\x00"), api.Lt, word("\x00\x00\x00\x00")), at(word("\x00\x00\x00")))
	// With the greatest and the least number alone left, behind all others.
	top, bottom := number(t, nines(100)+"e900"), number(t, "-"+nines(100)+"e900")
	least(t, 8, atoms(api.Ne, zero, api.Gt, c, api.Ge, top), &top)
	least(t, 8, atoms(api.Ne, zero, api.Lt, a, api.Le, bottom), &bottom)
}

// TestLeastNone is P11.1 and P11.2: atoms of which each can hold, but not all together; nothing is told, and there is no member.
func TestLeastNone(t *testing.T) {
	one, two, tiny := number(t, "1"), number(t, "2"), number(t, "1e-1000")
	up1 := number(t, "1."+noughts(98)+"1")
	top, bottom := number(t, nines(100)+"e900"), number(t, "-"+nines(100)+"e900")
	for _, x := range []struct {
		mask int
		l    []api.Atom
	}{
		{8, atoms(api.Gt, one, api.Lt, one)},
		{8, atoms(api.Ge, one, api.Lt, one)},
		{8, atoms(api.Eq, one, api.Ne, one)},
		{8, atoms(api.Eq, one, api.Eq, two)},
		{8, atoms(api.Eq, two, api.Eq, one)},
		{8, atoms(api.Ge, one, api.Le, one, api.Ne, one)},
		{8, atoms(api.Gt, two, api.Lt, one)},
		{8, atoms(api.Gt, two, api.Ne, one, api.Eq, one)},
		// Between a number and the one above there is none.
		{8, atoms(api.Gt, one, api.Lt, up1)},
		{8, atoms(api.Ge, one, api.Le, up1, api.Ne, up1, api.Ne, one)},
		{8, atoms(api.Gt, zero, api.Lt, tiny)},
		{8, atoms(api.Ge, number(t, "-1e-1000"), api.Le, tiny, api.Ne, zero, api.Ne, tiny, api.Ne, number(t, "-1e-1000"))},
		{8, atoms(api.Gt, top)},
		{8, atoms(api.Lt, bottom)},
		{8, atoms(api.Ge, top, api.Ne, top)},
		{8, atoms(api.Gt, word(""))},
		{8, atoms(api.Lt, yes)},
		// Nothing is less than the empty string, nor between a string and that with a byte 0 behind.
		{16, atoms(api.Lt, empty)},
		{16, atoms(api.Le, empty, api.Ne, empty)},
		{16, atoms(api.Gt, word("a"), api.Lt, word("a\x00"))},
		{16, atoms(api.Ge, word("a"), api.Le, word("a\x00"), api.Ne, word("a"), api.Ne, word("a\x00"))},
		{16, atoms(api.Gt, empty, api.Lt, word("\x00"))},
		{16, atoms(api.Gt, word("b"), api.Lt, word("a"))},
		{16, atoms(api.Lt, top)},
		{16, atoms(api.Eq, zero)},
		{7, atoms(api.Ge, zero)},
		{7, atoms(api.Ne, null, api.Ne, no, api.Ne, yes)},
		{1, atoms(api.Gt, null)},
		{31, atoms(api.Lt, null)},
		{24, atoms(api.Gt, top, api.Lt, empty)},
		{24, atoms(api.Lt, bottom)},
		{6, atoms(api.Gt, no, api.Lt, yes)},
		{4, atoms(api.Eq, no)},
		{31, atoms(api.Eq, null, api.Eq, empty)},
	} {
		least(t, x.mask, x.l, nil)
		for _, n := range append(plain(t), up1) {
			if atom.Member(x.mask, x.l, n) {
				t.Errorf("%d, %+v: %+v is a member", x.mask, x.l, n)
			}
		}
		for i, a := range x.l {
			if _, ok := atom.Least(31, x.l[i:i+1]); !ok && a != (api.Atom{N: api.Lt}) {
				t.Errorf("%+v alone holds of nothing", a)
			}
		}
	}
}

// TestLeastLong is P11.1 and P11.2: many atoms, and long strings, of which all or nearly all must be asked.
func TestLeastLong(t *testing.T) {
	const many = 60000
	var rising, falling, gaps, chain []api.Atom
	next := number(t, "1e-1000")
	for range many {
		rising = append(rising, api.Atom{N: api.Ge, C: next})
		gaps = append(gaps, api.Atom{N: api.Ne, C: next})
		next, _ = atom.Beside(next, true)
	}
	for i := range rising {
		falling = append(falling, api.Atom{N: api.Gt, C: rising[many-1-i].C})
	}
	last, over := rising[many-1].C, next
	least(t, 8, rising, &last)
	least(t, 8, falling, &over)
	gaps = append(gaps, atoms(api.Le, over, api.Gt, zero)...)
	least(t, 8, gaps, &over)
	least(t, 8, append(gaps, api.Atom{N: api.Lt, C: over}), nil)
	long := strings.Repeat("a", 1000)
	for i := range many / 100 {
		chain = append(chain, api.Atom{N: api.Ne, C: word(long[:1000-i])}, api.Atom{N: api.Ne, C: word(long[:1000-i] + "\x00")})
	}
	chain = append(chain, atoms(api.Ge, word(long[:500]), api.Le, word(long[:500]+"\x00\x00"))...)
	least(t, 16, chain, at(word(long[:500]+"\x00\x00")))
	text := strings.Repeat("é", 1<<20)
	least(t, 16, atoms(api.Gt, word(text)), at(word(text+"\x00")))
	least(t, 16, atoms(api.Gt, word(text), api.Le, word(text)), nil)
}
