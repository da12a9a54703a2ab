package atom_test

import (
	"math/big"
	"math/rand"
	"strings"
	"testing"

	"loupe/api"
	"loupe/atom"
	"loupe/num"
)

// besides are numbers, each with the one below and the one above, or nothing, if there is none.
var besides = [][3]string{
	{"-1e-1000", "0", "1e-1000"},
	{"0", "1e-1000", "2e-1000"},
	{"-2e-1000", "-1e-1000", "0"},
	{"8e-1000", "9e-1000", "10e-1000"},
	{"9e-1000", "10e-1000", "11e-1000"},
	{"98e-1000", "99e-1000", "100e-1000"},
	{"999e-1000", "1e-997", "1001e-1000"},
	{"0." + nines(100), "1", "1." + noughts(98) + "1"},
	{"-1." + noughts(98) + "1", "-1", "-0." + nines(100)},
	{"1." + nines(99), "2", "2." + noughts(98) + "1"},
	{"1.4" + nines(98), "1.5", "1.5" + noughts(97) + "1"},
	{"9." + nines(99), "10", "10." + noughts(97) + "1"},
	{"-10." + noughts(97) + "1", "-10", "-9." + nines(99)},
	{nines(100), "1e100", "1" + noughts(98) + "1e1"},
	{nines(99) + "8", nines(100), "1e100"},
	{nines(99) + "e-99", nines(98) + "91e-100", nines(98) + "92e-100"},
	// A number of 100 figures, which tell how far the ones beside it are.
	{strings.Repeat("12345", 19) + "12344", strings.Repeat("12345", 20), strings.Repeat("12345", 19) + "12346"},
	{strings.Repeat("12345", 19) + "12348e-40", strings.Repeat("12345", 19) + "12349e-40", strings.Repeat("12345", 19) + "1235e-39"},
	{"-" + strings.Repeat("12345", 19) + "12346", "-" + strings.Repeat("12345", 20), "-" + strings.Repeat("12345", 19) + "12344"},
	{"2" + noughts(98) + "1e7", "2" + noughts(98) + "2e7", "2" + noughts(98) + "3e7"},
	{"1e107", "1" + noughts(98) + "1e8", "1" + noughts(98) + "2e8"},
	// The last figure at the least power: 100 figures just fit, one place less, one more.
	{nines(99) + "e-1000", "1e-901", "1" + noughts(98) + "1e-1000"},
	{nines(98) + "e-1000", "1e-902", "1" + noughts(97) + "1e-1000"},
	{nines(100) + "e-1000", "1e-900", "1" + noughts(98) + "1e-999"},
	{nines(100) + "e-999", "1e-899", "1" + noughts(98) + "1e-998"},
	{nines(99) + "8e-1000", nines(100) + "e-1000", "1e-900"},
	{"-1e-900", "-" + nines(100) + "e-1000", "-" + nines(99) + "8e-1000"},
	{"5" + noughts(50) + "2e-1000", "5" + noughts(50) + "3e-1000", "5" + noughts(50) + "4e-1000"},
	{"-" + nines(2) + "e-1000", "-98e-1000", "-97e-1000"},
	// The greatest number and the least one, and those next to them.
	{nines(99) + "8e900", nines(100) + "e900", ""},
	{"", "-" + nines(100) + "e900", "-" + nines(99) + "8e900"},
	{nines(99) + "7e900", nines(99) + "8e900", nines(100) + "e900"},
	{nines(98) + "89e900", nines(99) + "e901", nines(99) + "1e900"},
	{nines(100) + "e899", "1e999", "1" + noughts(98) + "1e900"},
	{"-1" + noughts(98) + "1e900", "-1e999", "-" + nines(100) + "e899"},
}

// TestBeside is P11.1: the numbers beside one, by hand.
func TestBeside(t *testing.T) {
	for _, x := range besides {
		for i, s := range []string{x[0], x[2]} {
			var want api.Node
			if s != "" {
				want = number(t, s)
			}
			if n, ok := atom.Beside(number(t, x[1]), i == 1); n != want || ok != (s != "") {
				t.Errorf("%s, above %v: %s %v", x[1], i == 1, num.Print(n), ok)
			}
		}
	}
}

// TestBesideWrong is P11.1: what is no number has none beside it.
func TestBesideWrong(t *testing.T) {
	for _, x := range append(wrongNodes(), null, no, yes, empty, word("1")) {
		for _, above := range []bool{false, true} {
			if n, ok := atom.Beside(x, above); ok || n != (api.Node{}) {
				t.Errorf("%+v: %+v %v", x, n, ok)
			}
		}
	}
}

// ten is 10 to the power of n.
func ten(n int) *big.Int { return new(big.Int).Exp(big.NewInt(10), big.NewInt(int64(n)), nil) }

// units is how many times 10 to the power of -1000 a number is: all right numbers are whole then.
func units(n api.Node) *big.Int {
	x, ok := new(big.Int).SetString("0"+n.S, 10)
	if !ok {
		panic(n.S)
	}
	x.Mul(x, ten(n.E+1000))
	if n.Neg {
		x.Neg(x)
	}
	return x
}

// ofUnits is the number of so many units; no, if it is no right one.
func ofUnits(x *big.Int) (api.Node, bool) {
	n, err := num.Make(x.Sign() < 0, new(big.Int).Abs(x).String(), -1000)
	return n, err == api.OK
}

// wordedAbove is the least right number that is greater, by the words: from the next unit on, the first one of which no more than 100 figures are there.
func wordedAbove(n api.Node) (api.Node, bool) {
	next := units(n)
	next.Add(next, big.NewInt(1))
	if long := len(new(big.Int).Abs(next).String()); long > 100 {
		grain := ten(long - 100)
		rest := new(big.Int).Mod(next, grain)
		if rest.Sign() > 0 {
			next.Add(next, grain).Sub(next, rest)
		}
	}
	return ofUnits(next)
}

// otherSide is the number as far from nought, on the other side.
func otherSide(n api.Node) api.Node {
	n.Neg = n.S != "" && !n.Neg
	return n
}

// wordedBeside is the number above, or, as the other side is the same, turned round, the one below.
func wordedBeside(n api.Node, above bool) (api.Node, bool) {
	if above {
		return wordedAbove(n)
	}
	x, ok := wordedAbove(otherSide(n))
	return otherSide(x), ok
}

// edges are numbers at all edges: of each power at which something changes, what is around a power of ten, and around a number of a few figures.
func edges(t *testing.T) []api.Node {
	l := []api.Node{zero}
	for _, e := range []int{-1000, -999, -998, -951, -903, -902, -901, -900, -899, -898, -500, -101, -100, -99, -1, 0, 1, 98, 99, 100, 101, 899, 900, 901, 998, 999} {
		for _, s := range []string{"1", "2", "9", "10", "11", "19", "99", "101", nines(99), nines(100), "1" + noughts(98), "1" + noughts(98) + "1", "1" + noughts(97) + "1", nines(99) + "8", noughts(3) + "5" + noughts(97)} {
			for _, neg := range []bool{false, true} {
				for _, shift := range []int{0, 1 - len(s)} {
					if n, err := num.Make(neg, s, e+shift); err == api.OK {
						l = append(l, n)
					}
				}
			}
		}
	}
	if len(l) < 1000 {
		t.Fatal(len(l))
	}
	return l
}

// TestBesideWorded is P11.1 and P11.3: the numbers beside one are the least that is greater, and the greatest that is less, and there is none just where that would be too far from nought.
func TestBesideWorded(t *testing.T) {
	r := rand.New(rand.NewSource(11))
	l := edges(t)
	for range 15000 {
		l = append(l, anyNumber(r))
	}
	none := 0
	for _, n := range l {
		for _, above := range []bool{false, true} {
			want, ok := wordedBeside(n, above)
			if x, is := atom.Beside(n, above); x != want || is != ok {
				t.Fatalf("%s, above %v: %s %v, not %s %v", num.Print(n), above, num.Print(x), is, num.Print(want), ok)
			}
			if !ok {
				none++
			}
		}
	}
	if none < 4 {
		t.Error(none)
	}
}

// TestBetween is P11.3: between a number and the one above there is none, so all that lies there has too many figures, and no other number lies there; the one below that is it.
func TestBetween(t *testing.T) {
	r := rand.New(rand.NewSource(12))
	l := edges(t)
	for range 4000 {
		l = append(l, anyNumber(r))
	}
	apart := 0
	for i, n := range l {
		up, ok := atom.Beside(n, true)
		if !ok {
			if n != number(t, nines(100)+"e900") {
				t.Errorf("none is above %s", num.Print(n))
			}
			continue
		}
		if num.Cmp(n, up) != -1 || !num.Right(up) {
			t.Fatalf("%s: %s", num.Print(n), num.Print(up))
		}
		if back, ok := atom.Beside(up, false); !ok || back != n {
			t.Fatalf("%s, above, below: %s %v", num.Print(n), num.Print(back), ok)
		}
		for range 3 {
			if m := l[r.Intn(i+1)]; num.Cmp(n, m) == -1 && num.Cmp(m, up) == -1 {
				t.Fatalf("%s is between %s and %s", num.Print(m), num.Print(n), num.Print(up))
			}
		}
		gap := new(big.Int).Sub(units(up), units(n))
		for _, part := range []*big.Int{big.NewInt(1), new(big.Int).Div(gap, big.NewInt(2)), new(big.Int).Sub(gap, big.NewInt(1)), new(big.Int).Div(gap, big.NewInt(10)), new(big.Int).Rand(r, gap)} {
			if part.Sign() == 0 || part.Cmp(gap) == 0 {
				continue
			}
			apart++
			if m, is := ofUnits(part.Add(part, units(n))); is {
				t.Fatalf("%s is between %s and %s", num.Print(m), num.Print(n), num.Print(up))
			}
		}
	}
	if apart < 10000 {
		t.Error(apart)
	}
}

// TestSteps is P11.3: steps above, one after the other, are back by as many below; from the one end of a power of ten to the other, and through nought.
func TestSteps(t *testing.T) {
	for _, s := range []string{"-5e-1000", "-1." + noughts(98) + "4", "0." + nines(99) + "6", nines(98) + "e-998", nines(99) + "1e900", "-" + nines(100) + "e900"} {
		l := numbers(t, s)
		for {
			n, ok := atom.Beside(l[len(l)-1], true)
			if !ok || len(l) == 12 {
				break
			}
			l = append(l, n)
		}
		if len(l) < 9 {
			t.Errorf("%s: %d", s, len(l))
		}
		for i := len(l) - 1; i > 0; i-- {
			if n, ok := atom.Beside(l[i], false); !ok || n != l[i-1] || num.Cmp(n, l[i]) != -1 {
				t.Errorf("below %s: %s %v", num.Print(l[i]), num.Print(n), ok)
			}
		}
	}
}
