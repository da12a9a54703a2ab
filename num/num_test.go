package num_test

import (
	"math"
	"strings"
	"testing"

	"loupe/api"
	"loupe/num"
)

// node is a number as it is kept, right or not.
func node(neg bool, s string, e int) api.Node {
	return api.Node{Kind: api.Num, S: s, Neg: neg, E: e}
}

func ones(n int) string    { return strings.Repeat("1", n) }
func noughts(n int) string { return strings.Repeat("0", n) }

// rightNodes are right numbers, the edges of figures and powers among them.
func rightNodes() []api.Node {
	return []api.Node{
		node(false, "", 0),
		node(false, "1", 0), node(true, "1", 0), node(false, "9", 0), node(true, "9", 0),
		node(false, "15", 1), node(true, "123", -1), node(false, "101", -2), node(false, "1001", 7),
		node(false, "1", 19), node(false, "1", 20), node(false, "12", 18), node(true, "12", 19),
		node(false, ones(20), 0), node(false, ones(21), 0), node(true, ones(19), 1), node(false, ones(20), 1),
		node(false, "1", -1), node(true, "12", -1), node(false, "1", -19), node(false, "1", -20), node(false, "1", -21),
		node(false, ones(20), -20), node(true, ones(21), -20), node(false, ones(22), -21), node(false, ones(100), -20),
		node(false, ones(100), 0), node(true, ones(100), 0), node(false, ones(100), -1000), node(true, ones(100), 900),
		node(false, "1", -1000), node(true, "1", -1000), node(false, "12", -1000), node(false, "1", -999),
		node(false, "1", 999), node(true, "1", 999), node(false, "12", 998), node(false, "12", 997),
		node(false, ones(99)+"2", 900), node(false, ones(99), 901), node(false, ones(99), 900),
	}
}

// TestRight is P1.1: which numbers are right.
func TestRight(t *testing.T) {
	for _, n := range rightNodes() {
		if !num.Right(n) {
			t.Errorf("not right: %+v", n)
		}
	}
	for _, n := range []api.Node{
		{}, {Kind: api.False}, {Kind: api.True}, {Kind: api.Str, S: "1"}, {Kind: api.Arr}, {Kind: api.Obj}, {Kind: -1}, {Kind: 7}, {Kind: api.Str, S: "1", E: 1},
		{Kind: api.Num, S: "1", Many: 1}, {Kind: api.Num, S: "1", Many: -1}, {Kind: api.Num, Many: 1},
		{Kind: api.Num, S: "1", Name: "a"}, {Kind: api.Num, Name: "a"},
		node(true, "", 0), node(false, "", 1), node(false, "", -1), node(true, "", 1), node(false, "", 1000),
		node(false, "0", 0), node(true, "0", 0), node(false, "00", 0), node(false, "01", 0), node(false, "10", 0), node(false, "010", 0),
		node(false, "1x", 0), node(false, "x", 0), node(false, "-1", 0), node(false, "+1", 0), node(false, "1.5", 0), node(false, "1e1", 0), node(false, " 1", 0), node(false, "1 ", 0), node(false, "1\x00", 0), node(false, "1/1", 0), node(false, "1:1", 0), node(false, "\xff", 0), node(false, "1٣1", 0), node(false, "1１1", 0),
		node(false, ones(101), 0), node(true, ones(101), -1000), node(false, ones(101), 899), node(false, ones(1000), 0), node(false, ones(1001), 0),
		node(false, "1", -1001), node(true, "1", -1001), node(false, ones(100), -1001), node(false, "1", math.MinInt), node(false, "1", math.MinInt+1),
		node(false, "1", 1000), node(true, "1", 1000), node(false, "1", 1001), node(false, "12", 999), node(false, ones(100), 901), node(false, ones(99), 902),
		node(false, "1", math.MaxInt), node(false, "12", math.MaxInt-1), node(false, ones(100), math.MaxInt),
	} {
		if num.Right(n) {
			t.Errorf("right: %+v", n)
		}
	}
}

// TestMake is P1.1: numbers of figures and a power, and what can be none.
func TestMake(t *testing.T) {
	for _, c := range []struct {
		neg     bool
		figures string
		e       int
		want    api.Node
	}{
		{false, "1", 0, node(false, "1", 0)},
		{true, "1", 0, node(true, "1", 0)},
		{false, "1234567890123456789", -3, node(false, "1234567890123456789", -3)},
		{false, "9876543210", 0, node(false, "987654321", 1)},
		{false, "00120", 3, node(false, "12", 4)},
		{true, "00120", 3, node(true, "12", 4)},
		{false, "1001", 0, node(false, "1001", 0)},
		{false, "0010010", -5, node(false, "1001", -4)},
		{false, "100", -2, node(false, "1", 0)},

		{false, "", 0, node(false, "", 0)},
		{true, "", 0, node(false, "", 0)},
		{true, "", 7, node(false, "", 0)},
		{false, "0", 0, node(false, "", 0)},
		{true, "0", 0, node(false, "", 0)},
		{true, "000", -5, node(false, "", 0)},
		{false, "0", 1001, node(false, "", 0)},
		{false, "0", -1001, node(false, "", 0)},
		{true, "0", math.MaxInt, node(false, "", 0)},
		{true, "", math.MinInt, node(false, "", 0)},
		{true, noughts(5000), math.MinInt, node(false, "", 0)},

		{false, ones(100), 0, node(false, ones(100), 0)},
		{false, noughts(3) + ones(100) + noughts(3), 0, node(false, ones(100), 3)},
		{false, "1" + noughts(98) + "1", 0, node(false, "1"+noughts(98)+"1", 0)},
		{false, "1" + noughts(999), 0, node(false, "1", 999)},
		{false, "1" + noughts(5000), -5000, node(false, "1", 0)},
		{false, noughts(5000) + "1", 0, node(false, "1", 0)},
		{false, "1" + noughts(2000), -3000, node(false, "1", -1000)},

		{false, "1", -1000, node(false, "1", -1000)},
		{false, "10", -1001, node(false, "1", -1000)},
		{true, "12", -1000, node(true, "12", -1000)},
		{false, "1", 999, node(false, "1", 999)},
		{false, "10", 998, node(false, "1", 999)},
		{false, "01", 999, node(false, "1", 999)},
		{true, "12", 998, node(true, "12", 998)},
		{false, ones(100), 900, node(false, ones(100), 900)},
		{false, ones(100), -1000, node(false, ones(100), -1000)},
	} {
		n, err := num.Make(c.neg, c.figures, c.e)
		if err != api.OK || n != c.want || !num.Right(n) {
			t.Errorf("%v %q %d: %+v %d, not %+v", c.neg, c.figures, c.e, n, err, c.want)
		}
	}
}

func TestMakeErrors(t *testing.T) {
	for _, c := range []struct {
		figures string
		e       int
		want    api.Errno
	}{
		{"1a", 0, api.ErrArg}, {"a", 0, api.ErrArg}, {"-1", 0, api.ErrArg}, {"+1", 0, api.ErrArg}, {"1.5", 0, api.ErrArg}, {"1e1", 0, api.ErrArg},
		{" ", 0, api.ErrArg}, {"1 ", 0, api.ErrArg}, {" 1", 0, api.ErrArg}, {"1 1", 0, api.ErrArg}, {"/", 0, api.ErrArg}, {":", 0, api.ErrArg},
		{"\x00", 0, api.ErrArg}, {"\xff", 0, api.ErrArg}, {"٣", 0, api.ErrArg}, {"1１1", 0, api.ErrArg},
		{"00x00", 0, api.ErrArg}, {"0x", 0, api.ErrArg},
		// ErrArg is named ahead of ErrLarge.
		{"1x", 5000, api.ErrArg}, {ones(200) + "x", 0, api.ErrArg}, {"x", math.MaxInt, api.ErrArg}, {"0-", -5000, api.ErrArg},

		{ones(101), 0, api.ErrLarge}, {noughts(5) + ones(101), 0, api.ErrLarge}, {"1" + noughts(99) + "1", 0, api.ErrLarge}, {ones(101), -101, api.ErrLarge},
		{"1", -1001, api.ErrLarge}, {"10", -1002, api.ErrLarge}, {ones(100), -1001, api.ErrLarge},
		{"1", 1000, api.ErrLarge}, {"10", 999, api.ErrLarge}, {"12", 999, api.ErrLarge}, {ones(100), 901, api.ErrLarge}, {"1" + noughts(1000), 0, api.ErrLarge},
		{"1", math.MaxInt, api.ErrLarge}, {"1", math.MinInt, api.ErrLarge}, {"10", math.MaxInt, api.ErrLarge}, {"1" + noughts(2000), math.MaxInt, api.ErrLarge}, {"1" + noughts(2000), math.MinInt, api.ErrLarge}, {ones(50), math.MaxInt, api.ErrLarge},
	} {
		for _, neg := range []bool{false, true} {
			if n, err := num.Make(neg, c.figures, c.e); err != c.want || n != (api.Node{}) {
				t.Errorf("%v %q %d: %+v %d, not %d", neg, c.figures, c.e, n, err, c.want)
			}
		}
	}
}

// TestPrint is P1.1: texts, on both sides of each edge of the power.
func TestPrint(t *testing.T) {
	for _, c := range []struct {
		figures string
		e       int
		want    string
	}{
		{"1", 0, "1"}, {"15", 1, "150"}, {"15", -1, "1.5"}, {"123", -2, "1.23"}, {"1001", -3, "1.001"},
		{"1", 19, "1" + noughts(19)}, {"1", 20, "1e20"}, {"12", 18, "12" + noughts(18)}, {"12", 19, "12e19"},
		{ones(19), 0, ones(19)}, {ones(19), 1, ones(19) + "0"}, {ones(19), 2, ones(19) + "e2"},
		{ones(20), 0, ones(20)}, {ones(20), 1, ones(20) + "e1"},
		{ones(21), 0, ones(21) + "e0"}, {ones(21), 1, ones(21) + "e1"}, {ones(100), 0, ones(100) + "e0"}, {ones(100), 900, ones(100) + "e900"},
		{"1", -1, "0.1"}, {"12", -1, "1.2"}, {"12", -2, "0.12"}, {"12", -3, "0.012"},
		{"1", -19, "0." + noughts(18) + "1"}, {"1", -20, "0." + noughts(19) + "1"}, {"1", -21, "1e-21"},
		{"12", -20, "0." + noughts(18) + "12"}, {"12", -21, "12e-21"},
		{ones(20), -20, "0." + ones(20)}, {ones(21), -20, "1." + ones(20)}, {ones(22), -21, ones(22) + "e-21"},
		{ones(21), -1, ones(20) + ".1"}, {ones(100), -1, ones(99) + ".1"}, {ones(100), -20, ones(80) + "." + ones(20)}, {ones(100), -21, ones(100) + "e-21"},
		{"1", 999, "1e999"}, {"12", 998, "12e998"}, {"1", -1000, "1e-1000"}, {ones(100), -1000, ones(100) + "e-1000"},
	} {
		if s := num.Print(node(false, c.figures, c.e)); s != c.want {
			t.Errorf("%s %d: %s, not %s", c.figures, c.e, s, c.want)
		}
		if s := num.Print(node(true, c.figures, c.e)); s != "-"+c.want {
			t.Errorf("-%s %d: %s, not -%s", c.figures, c.e, s, c.want)
		}
	}
	if s := num.Print(node(false, "", 0)); s != "0" {
		t.Errorf("nought: %s", s)
	}
}
