package num_test

import (
	"math/big"
	"math/rand"
	"strconv"
	"strings"
	"testing"

	"loupe/api"
	"loupe/num"
)

// someNodes are the right numbers of the edges, their counterparts below nought, and many more, the same in each run.
func someNodes(many int) []api.Node {
	l := rightNodes()
	for _, n := range rightNodes() {
		if n.S != "" {
			n.Neg = !n.Neg
			l = append(l, n)
		}
	}
	r := rand.New(rand.NewSource(1))
	for len(l) < many {
		b := make([]byte, 1+r.Intn([]int{3, 25, 100}[r.Intn(3)]))
		for i := range b {
			b[i] = byte('0' + r.Intn([]int{2, 10}[r.Intn(2)]))
		}
		e := r.Intn(60) - 40
		if r.Intn(4) == 0 {
			e = r.Intn(2100) - 1050
		}
		if n, err := num.Make(r.Intn(2) == 0, string(b), e); err == api.OK {
			l = append(l, n)
		}
	}
	return l
}

// exact is a number as the library's own.
func exact(t *testing.T, n api.Node) *big.Rat {
	s := "0" + n.S + "e" + strconv.Itoa(n.E)
	if n.Neg {
		s = "-" + s
	}
	r, ok := new(big.Rat).SetString(s)
	if !ok {
		t.Fatalf("no number: %s", s)
	}
	return r
}

// TestBack is P1.2: what is printed is read as it was, and is worth as much.
func TestBack(t *testing.T) {
	for _, n := range someNodes(5000) {
		s := num.Print(n)
		if m, at, err := num.Read(s); m != n || at != 0 || err != api.OK {
			t.Errorf("%+v, %s: %+v %d %d", n, s, m, at, err)
		}
		if r, ok := new(big.Rat).SetString(s); !ok || r.Cmp(exact(t, n)) != 0 {
			t.Errorf("%+v is worth another number: %s", n, s)
		}
	}
}

// TestBackPowers is P1.2 at every power, for some lengths of figures.
func TestBackPowers(t *testing.T) {
	for _, k := range []int{1, 2, 19, 20, 21, 22, 99, 100} {
		for e := -api.MaxE; e <= api.MaxE-k; e++ {
			n := node(e%2 == 0, ones(k), e)
			if m, at, err := num.Read(num.Print(n)); m != n || at != 0 || err != api.OK {
				t.Errorf("%d figures, power %d: %+v %d %d", k, e, m, at, err)
			}
		}
	}
}

// TestOrder is P1.1 and P1.3: Cmp is the order of the numbers themselves, and 0 just of what is the same.
func TestOrder(t *testing.T) {
	l := someNodes(400)
	r := make([]*big.Rat, len(l))
	for i, n := range l {
		r[i] = exact(t, n)
	}
	for i, a := range l {
		for k, b := range l {
			c := num.Cmp(a, b)
			if want := r[i].Cmp(r[k]); c != want {
				t.Errorf("%s and %s: %d, not %d", num.Print(a), num.Print(b), c, want)
			}
			if c != -num.Cmp(b, a) || (c == 0) != (a == b) {
				t.Errorf("%s and %s: %d, the other way round %d", num.Print(a), num.Print(b), c, num.Cmp(b, a))
			}
		}
	}
}

// TestOrderThrough is P1.3: what is less than something less is less.
func TestOrderThrough(t *testing.T) {
	l := someNodes(90)
	for _, a := range l {
		for _, b := range l {
			for _, c := range l {
				if num.Cmp(a, b) <= 0 && num.Cmp(b, c) <= 0 && num.Cmp(a, c) > 0 {
					t.Errorf("%s, %s, %s", num.Print(a), num.Print(b), num.Print(c))
				}
			}
		}
	}
}

// TestOrderEdges is P1.3 where figures, powers and sides pull apart.
func TestOrderEdges(t *testing.T) {
	rising := []string{
		"-" + ones(99) + "2e900", "-1e999", "-12e997", "-10.1", "-10", "-9.99", "-1.01", "-1", "-" + "0." + strings.Repeat("9", 100), "-12e-1000", "-1e-999", "-9e-1000", "-1e-1000",
		"0",
		"1e-1000", "9e-1000", "1e-999", "12e-1000", "0." + strings.Repeat("9", 100), "1", "1." + noughts(98) + "1", "1.01", "9.99", "10", "10.1", "99", "100", "101", "1e19", "1e20", "11e19", "12e997", "1e999", ones(99) + "2e900",
	}
	for i, s := range rising {
		for k, u := range rising {
			a, _, e := num.Read(s)
			b, _, f := num.Read(u)
			want := 0
			if i < k {
				want = -1
			}
			if i > k {
				want = 1
			}
			if c := num.Cmp(a, b); c != want || e != api.OK || f != api.OK {
				t.Errorf("%s and %s: %d, not %d (%d %d)", s, u, c, want, e, f)
			}
		}
	}
}

// TestOrderWritten is P1.3: however a number is written, it is the same one.
func TestOrderWritten(t *testing.T) {
	for _, same := range [][]string{
		{"0", "-0", "0.0", "-0.00", "0e5", "-0E-999999", "0e+000000001"},
		{"150", "1.5e2", "1.50E+2", "15e1", "0.15e3", "1500e-1", "150.000", "0.0000150e0000007"},
		{"-0.001", "-1e-3", "-0.1E-2", "-10e-4", "-0.00100", "-1" + noughts(900) + "e-903"},
		{"1e999", "1" + noughts(999), "0.1e1000", "100e997"},
		{"1e-1000", "0." + noughts(999) + "1", "100e-1002", "0.1e-999"},
	} {
		first, _, _ := num.Read(same[0])
		for _, s := range same {
			n, _, err := num.Read(s)
			if err != api.OK || n != first || num.Cmp(n, first) != 0 || num.Cmp(first, n) != 0 || num.Print(n) != num.Print(first) {
				t.Errorf("%.40s: %+v, not %+v", s, n, first)
			}
		}
	}
}

// TestOrderNamed is P1.3: a part's name has no say in the order of numbers.
func TestOrderNamed(t *testing.T) {
	one, two := node(false, "1", 0), node(false, "2", 0)
	one.Name = "z"
	two.Name = "a"
	other := one
	other.Name = "b"
	if num.Cmp(one, two) != -1 || num.Cmp(two, one) != 1 || num.Cmp(one, other) != 0 {
		t.Error(num.Cmp(one, two), num.Cmp(two, one), num.Cmp(one, other))
	}
}
