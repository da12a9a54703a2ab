package atom_test

import (
	"math/rand"
	"slices"
	"sync"
	"testing"

	"loupe/api"
	"loupe/atom"
)

// TestUntouched is P11.1, by R4: neither the atoms that are handed in change, nor what lies behind their end.
func TestUntouched(t *testing.T) {
	r := rand.New(rand.NewSource(16))
	near, around := near(t)
	for range 2000 {
		l := roomy(some(r, near, 6))
		was := slices.Clone(l[:cap(l)])
		mask := r.Intn(32)
		n, _ := atom.Least(mask, l)
		atom.Member(mask, l, around[r.Intn(len(around))])
		atom.Member(mask, l, n)
		if !slices.Equal(l[:cap(l)], was) {
			t.Fatalf("%+v was %+v", l[:cap(l)], was)
		}
	}
}

// TestAsBefore is P11.1, by R5: what is answered is the same, asked again, in another order of other calls, and by many at once.
func TestAsBefore(t *testing.T) {
	r := rand.New(rand.NewSource(17))
	near, _ := near(t)
	type asked struct {
		mask int
		l    []api.Atom
		n    api.Node
		ok   bool
	}
	var all []asked
	for range 300 {
		x := asked{mask: r.Intn(32), l: some(r, near, 6)}
		x.n, x.ok = atom.Least(x.mask, x.l)
		all = append(all, x)
	}
	slices.Reverse(all)
	var group sync.WaitGroup
	for range 4 {
		group.Go(func() {
			for _, x := range all {
				if n, ok := atom.Least(x.mask, x.l); n != x.n || ok != x.ok || ok && !atom.Member(x.mask, x.l, n) {
					t.Errorf("%+v: %+v %v", x, n, ok)
				}
			}
		})
	}
	group.Wait()
}

// TestAnything is P11.1, by R1: no call panics, and each ends, of whatever is no atom, no mask and no node; and what is told then is either a member or nothing.
func TestAnything(t *testing.T) {
	r := rand.New(rand.NewSource(18))
	nodes := append(wrongNodes(), plain(t)...)
	hows := []int{-huge - 1, -2, -1, 0, 1, 2, 3, 4, 5, 6, 7, 63, 64, huge}
	masks := []int{-huge - 1, -8, -1, 0, 1, 8, 16, 31, 32, 40, 64, huge}
	for _, how := range hows {
		atom.Turn(how)
		for _, c := range nodes {
			for _, n := range nodes {
				atom.Holds(api.Atom{N: how, C: c}, n)
			}
		}
	}
	for range 20000 {
		var l []api.Atom
		for range r.Intn(5) {
			l = append(l, api.Atom{N: hows[r.Intn(len(hows))], C: nodes[r.Intn(len(nodes))]})
		}
		mask := masks[r.Intn(len(masks))]
		atom.Member(mask, l, nodes[r.Intn(len(nodes))])
		n, ok := atom.Least(mask, l)
		if !ok && n != (api.Node{}) || ok && !atom.Right(api.Atom{C: n}) {
			t.Fatalf("%d, %+v: %+v %v", mask, l, n, ok)
		}
	}
}

// TestNoMasks is P11.1: what is no mask has no members.
func TestNoMasks(t *testing.T) {
	for _, mask := range []int{-huge - 1, -32, -1, 32, 40, 63, 256 + 31, huge} {
		for _, n := range plain(t) {
			if atom.Member(mask, nil, n) {
				t.Errorf("%d: %+v", mask, n)
			}
		}
		least(t, mask, nil, nil)
	}
}
