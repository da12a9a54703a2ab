package num_test

import (
	"math/big"
	"regexp"
	"testing"

	"loupe/api"
	"loupe/num"
)

// TestRead is P1.1: what a text is written as.
func TestRead(t *testing.T) {
	for _, c := range []struct {
		s    string
		want api.Node
	}{
		{"0", node(false, "", 0)}, {"-0", node(false, "", 0)}, {"0.0", node(false, "", 0)}, {"-0.000", node(false, "", 0)}, {"0e5", node(false, "", 0)}, {"-0E-5", node(false, "", 0)}, {"0.00e+0", node(false, "", 0)}, {"0e999999", node(false, "", 0)}, {"-0e-999999", node(false, "", 0)},
		{"1", node(false, "1", 0)}, {"-1", node(true, "1", 0)}, {"9", node(false, "9", 0)}, {"10", node(false, "1", 1)}, {"1200", node(false, "12", 2)}, {"1002003004", node(false, "1002003004", 0)},
		{"1.50e2", node(false, "15", 1)}, {"150", node(false, "15", 1)}, {"15e1", node(false, "15", 1)}, {"15E1", node(false, "15", 1)}, {"15e+1", node(false, "15", 1)}, {"15E+01", node(false, "15", 1)}, {"1500e-1", node(false, "15", 1)}, {"0.15e3", node(false, "15", 1)}, {"0.00150E0005", node(false, "15", 1)},
		{"0.1", node(false, "1", -1)}, {"-0.10", node(true, "1", -1)}, {"10.01", node(false, "1001", -2)}, {"-12.30", node(true, "123", -1)}, {"1e-1", node(false, "1", -1)}, {"1E-01", node(false, "1", -1)},

		{ones(100), node(false, ones(100), 0)}, {ones(100) + noughts(900), node(false, ones(100), 900)}, {ones(50) + "." + ones(50), node(false, ones(100), -50)}, {"0." + noughts(900) + ones(100), node(false, ones(100), -1000)},
		{"1e999", node(false, "1", 999)}, {"10e998", node(false, "1", 999)}, {"0.1e1000", node(false, "1", 999)}, {"12e998", node(false, "12", 998)}, {"-1.2e999", node(true, "12", 998)},
		{"1e-1000", node(false, "1", -1000)}, {"-1e-1000", node(true, "1", -1000)}, {"10e-1001", node(false, "1", -1000)}, {"0.1e-999", node(false, "1", -1000)},
		{"1" + noughts(999), node(false, "1", 999)}, {"1" + noughts(5000) + "e-5000", node(false, "1", 0)}, {"0." + noughts(4999) + "1e5000", node(false, "1", 0)}, {"0." + noughts(4999) + "1e5999", node(false, "1", 999)},
		{"1e000000000005", node(false, "1", 5)}, {"1e-" + noughts(50) + "1000", node(false, "1", -1000)}, {"1e+0000000", node(false, "1", 0)}, {"0e0999999", node(false, "", 0)},
	} {
		if n, at, err := num.Read(c.s); n != c.want || at != 0 || err != api.OK {
			t.Errorf("%s: %+v %d %d, not %+v", c.s, n, at, err, c.want)
		}
	}
}

// TestReadLarge is P1.1: texts that are well written, but of no right number.
func TestReadLarge(t *testing.T) {
	for _, s := range []string{
		ones(101), ones(50) + "." + ones(51), "0." + ones(101), "1" + noughts(99) + "1", "-" + ones(101) + "e-101",
		"1e1000", "10e999", "12e999", "0.1e1001", "1" + noughts(1000), "-1e1000", ones(100) + "e901",
		"1e-1001", "0.1e-1000", "-1e-1001", "12e-1001", "0." + noughts(1000) + "1", "0." + noughts(4999) + "1e6000", "1" + noughts(5000) + "e-6001",
		"1e999999", "1e-999999", "1e1000000", "1e-1000000", "1E+1234567", "1e0001234567",
		"0e1000000", "-0e-1000000", "0.0E+0001000000", "0e99999999999999999999999999", "1e18446744073709551616", "1e-18446744073709551616", "1" + noughts(1000000) + "e-1000000",
	} {
		if n, at, err := num.Read(s); n != (api.Node{}) || at != 0 || err != api.ErrLarge {
			t.Errorf("%.40s: %+v %d %d", s, n, at, err)
		}
	}
}

// TestReadForm is P1.1: each place at which a text can't go on, or ends too soon; ahead of what is too large.
func TestReadForm(t *testing.T) {
	for s, want := range map[string]int{
		"": 0, "x": 0, "+": 0, "+1": 0, ".": 0, ".5": 0, "e": 0, "e5": 0, "E": 0, " ": 0, " 1": 0, "\n1": 0, "/": 0, ":": 0, "\x00": 0, "\xff": 0, "٣": 0, "NaN": 0, "Infinity": 0,
		"-": 1, "--1": 1, "-x": 1, "-+1": 1, "-.5": 1, "-e1": 1, "- 1": 1, "-Infinity": 1,
		"01": 1, "00": 1, "0x1": 1, "0 ": 1, "0-": 1, "0+": 1, "-01": 2, "-00": 2,
		"1x": 1, "1 ": 1, "1-": 1, "1+1": 1, "1,5": 1, "1_000": 1, "12x": 2, "1\x00": 1, "1٣": 1, "10-": 2,
		"1.": 2, "1.x": 2, "1..": 2, "1.e5": 2, "1.E5": 2, "1.-5": 2, "1.+5": 2, "0.": 2, "-0.": 3, "1. ": 2,
		"1.5x": 3, "1.5.": 3, "1.5.5": 3, "1.5-": 3, "1.5 ": 3, "0.0x": 3,
		"1e": 2, "1E": 2, "1ex": 2, "1ee": 2, "1e.": 2, "1e.5": 2, "1e ": 2, "0e": 2, "1.5e": 4, "-1.5E": 5,
		"1e+": 3, "1e-": 3, "1E+x": 3, "1e-x": 3, "1e+-1": 3, "1e-+1": 3, "1e--1": 3, "1e++1": 3, "1e+.": 3, "1e- 1": 3,
		"1e5x": 3, "1e5.": 3, "1e5.0": 3, "1e5e5": 3, "1e5 ": 3, "1e5-": 3, "1e+5x": 4, "1e-05+": 5,
		"1e1234567x": 9, "1e1234567.": 9, ones(200) + "x": 200, ones(200) + ".": 201, ones(200) + "e": 201, "1e9999 ": 6,
	} {
		if n, at, err := num.Read(s); n != (api.Node{}) || at != want || err != api.ErrForm {
			t.Errorf("%q: %+v %d %d, not at %d", s, n, at, err, want)
		}
	}
}

// written tells whether a text is written well, and else where it can't go on, by the grammar of RFC 8259 and what it lets a text begin with.
func written(s string) (bool, int) {
	if wholeText.MatchString(s) {
		return true, 0
	}
	at := 0
	for at < len(s) && begunText.MatchString(s[:at+1]) {
		at++
	}
	return false, at
}

var (
	wholeText = regexp.MustCompile(`^-?(0|[1-9][0-9]*)(\.[0-9]+)?([eE][+-]?[0-9]+)?$`)
	begunText = regexp.MustCompile(`^(|-|-?(0|[1-9][0-9]*)(|\.[0-9]*|(\.[0-9]+)?[eE](|[+-]|[+-]?[0-9]+)))$`)
)

// TestReadAll is P1.1: all texts of up to 6 bytes of those that count, and of one that does not, are what the grammar says, and worth what the library says.
func TestReadAll(t *testing.T) {
	beyond, _ := new(big.Rat).SetString("1e1000")
	hold := func(s string) {
		n, at, err := num.Read(s)
		ok, place := written(s)
		if !ok {
			if err != api.ErrForm || at != place || n != (api.Node{}) {
				t.Errorf("%q: %+v %d %d, not at %d", s, n, at, err, place)
			}
			return
		}
		worth, _ := new(big.Rat).SetString(s)
		if new(big.Rat).Abs(worth).Cmp(beyond) >= 0 {
			if err != api.ErrLarge || at != 0 || n != (api.Node{}) {
				t.Errorf("%q: %+v %d %d, not too large", s, n, at, err)
			}
			return
		}
		if err != api.OK || at != 0 || !num.Right(n) || exact(t, n).Cmp(worth) != 0 {
			t.Errorf("%q: %+v %d %d", s, n, at, err)
		}
	}
	var all func(s string, more int)
	all = func(s string, more int) {
		hold(s)
		if more == 0 {
			return
		}
		for _, c := range "-+.eE02 " {
			all(s+string(c), more-1)
		}
	}
	all("", 6)
}
