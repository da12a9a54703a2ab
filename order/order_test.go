package order_test

import (
	"slices"
	"strings"
	"testing"

	"loupe/api"
	"loupe/order"
	"loupe/text"
	"loupe/val"
)

// v is a text's value.
func v(t *testing.T, s string) api.Val {
	t.Helper()
	x, at, err := text.Parse(s)
	if err != api.OK || !val.Right(x) {
		t.Fatalf("%s: %d at %d", s, err, at)
	}
	return x
}

// vs are the values of the parts of a list that is written.
func vs(t *testing.T, s string) []api.Val {
	t.Helper()
	return val.Parts(v(t, s))
}

// sign is how places i and k stand to each other.
func sign(i, k int) int {
	switch {
	case i < k:
		return -1
	case i > k:
		return 1
	}
	return 0
}

// strictly holds each two of values that rise strictly against each other, both ways round.
func strictly(t *testing.T, rising []string) {
	t.Helper()
	l := make([]api.Val, len(rising))
	for i, s := range rising {
		l[i] = v(t, s)
	}
	for i, a := range l {
		for k, b := range l {
			if c := order.Cmp(a, slices.Clone(b)); c != sign(i, k) {
				t.Errorf("%s and %s: %d, not %d", rising[i], rising[k], c, sign(i, k))
			}
		}
	}
}

// TestCmpKinds is P5.1: of two kinds the lesser one tells, whatever the values are: two of each.
func TestCmpKinds(t *testing.T) {
	kinds := [][]string{
		{"null"}, {"false"}, {"true"},
		{"-1e999", "1e999"},
		{`""`, `"zzz"`},
		{"[]", "[[null],{}]"},
		{"{}", `{"a":null,"b":[]}`},
	}
	for i, some := range kinds {
		for k, others := range kinds {
			for _, a := range some {
				for _, b := range others {
					if c := order.Cmp(v(t, a), v(t, b)); i != k && c != sign(i, k) {
						t.Errorf("%s and %s: %d, not %d", a, b, c, sign(i, k))
					}
				}
			}
		}
	}
	for _, word := range []string{"null", "false", "true"} {
		if c := order.Cmp(v(t, word), v(t, word)); c != 0 {
			t.Errorf("%s and itself: %d", word, c)
		}
	}
}

// TestCmpNumbers is P5.1: numbers by what they are worth.
func TestCmpNumbers(t *testing.T) {
	strictly(t, []string{"-1e999", "-150", "-12", "-10", "-9", "-1.01", "-1", "-0.5", "-1e-999", "-1e-1000", "0", "1e-1000", "1e-999", "0.5", "0.51", "1", "1.01", "2", "9", "10", "12", "99", "100", "150", "1e20", "1e21", "1e999"})
	for _, same := range [][]string{{"0", "-0", "0.00", "0e5"}, {"150", "1.50e2", "1500e-1", "15E+1"}, {"-0.001", "-1e-3", "-0.00100"}, {"1e999", "10e998"}} {
		for _, a := range same {
			for _, b := range same {
				if c := order.Cmp(v(t, a), v(t, b)); c != 0 {
					t.Errorf("%s and %s: %d", a, b, c)
				}
			}
		}
	}
}

// TestCmpStrings is P5.1: strings byte by byte, not by halves, letters or figures.
func TestCmpStrings(t *testing.T) {
	strictly(t, []string{`""`, `"\u0000"`, `"\u0000\u0000"`, `"\n"`, `" "`, `"10"`, `"9"`, `"A"`, `"Z"`, `"a"`, `"a\u0000"`, `"aZ"`, `"aa"`, `"aaa"`, `"ab"`, `"aé"`, `"b"`, `"z"`, `"\u007f"`, `"é"`, `"éa"`, `"ê"`, `"€"`, `"\ufffd"`, `"\uffff"`, `"𝄞"`, `"𝄞𝄞"`})
}

// TestCmpLists is P5.1: the first part that is not the same, and then how many there are.
func TestCmpLists(t *testing.T) {
	strictly(t, []string{
		"[]",
		"[null]", "[null,null]", "[null,null,null]", "[null,false]", "[null,[]]", "[false]",
		"[0]", "[0,9,9,9]", "[0,10]", "[1]", "[1,0]", "[1,1]", "[1,1,0]", "[1,2]", "[1,10]", "[2]", "[2,0]", "[10]",
		`["a"]`, `["a",{}]`, `["aa"]`,
		"[[]]", "[[],null]", "[[],[]]", "[[],{}]", "[[null]]", "[[null],0]", "[[null,null]]", "[[1,2],3]", "[[1,2],4]", "[[1,3],0]", "[[[]]]", "[[[[]]]]", "[[[[0]]]]", "[[[[0],1]]]", "[[[[1]]]]", "[[[{}]]]", "[[{}]]",
		"[{}]", `[{"a":1}]`, `[{"a":1},0]`, `[{"a":2}]`, `[{"a":1,"b":0}]`, `[{"b":0}]`,
	})
}

// TestCmpObjects is P5.1: all names first, as a list; then the parts, in their names' order.
func TestCmpObjects(t *testing.T) {
	strictly(t, []string{
		"{}",
		`{"":null}`, `{"":{}}`, `{"":null,"a":null}`, `{"":null,"a":1}`, `{"":false,"a":null}`,
		`{"A":{}}`,
		`{"a":null}`, `{"a":2}`, `{"a":10}`, `{"a":"x"}`, `{"a":[]}`, `{"a":{}}`, `{"a":{"a":1}}`, `{"a":{"b":0}}`,
		`{"a":0,"b":0}`, `{"a":0,"b":1}`, `{"a":1,"b":0}`, `{"a":1,"b":1}`, `{"a":{},"b":null}`,
		`{"a":1,"b":0,"c":0}`, `{"a":1,"b":0,"c":1}`, `{"a":1,"b":1,"c":0}`,
		`{"a":0,"b":0,"d":0}`, `{"a":0,"c":0}`, `{"a":0,"c":1}`, `{"a":0,"é":0}`,
		`{"a\u0000":0}`, `{"aa":0}`, `{"b":null}`, `{"b":null,"c":null}`, `{"c":null}`, `{"é":0}`, `{"\uffff":0}`, `{"𝄞":0}`,
	})
}

// TestCmpNamesFirst is P5.1: names of an object tell ahead of parts that stand ahead of them, however long and deep those are.
func TestCmpNamesFirst(t *testing.T) {
	for _, c := range [][2]string{
		{`{"a":9,"b":0}`, `{"a":0,"c":0}`},
		{`{"a":9}`, `{"a":0,"b":0}`},
		{`{"a":[3,4,5,6],"b":0}`, `{"a":[1],"c":0}`},
		{`{"a":[3],"b":0}`, `{"a":[1,4,5,6],"c":0}`},
		{`{"a":[[1,{"q":[1,2,{"r":1}]}],7],"b":0}`, `{"a":[[1,{"q":[1,1,[],{}]}],7,8,[9]],"c":0}`},
		{`{"a":{"x":1,"y":[2,3]},"b":0}`, `{"a":{"x":0,"y":[]},"c":0}`},
		{`{"a":{"z":1,"zz":[]},"b":0}`, `{"a":{"x":{"u":[1,2]},"y":[[]]},"c":0}`},
		{`{"a":{"z":1},"b":0}`, `{"a":{"x":[1,2,3]},"c":0}`},
		{`{"a":{"x":[1,2]},"b":0}`, `{"a":5,"c":0}`},
		{`{"a":5,"b":[1]}`, `{"a":[1,[2,{"b":3}]],"b":[1],"c":0}`},
		{`{"a":{"a":{"a":[9,9],"b":[1]},"b":{}},"b":1}`, `{"a":{"a":{"a":[0],"b":[1]},"b":{}},"c":0}`},
		{`{"a":{"a":{"a":[9,9],"b":[1]},"b":{}},"b":1}`, `{"a":{"a":{"a":[0],"b":[1]},"c":{}},"b":1}`},
		{`{"a":{"a":{"a":[9,9],"b":[1]},"b":{}},"b":1}`, `{"a":{"a":{"a":[0],"c":[1]},"b":{}},"b":1}`},
		{`[[{"a":[9,[9]],"b":1},5]]`, `[[{"a":[0],"c":1},4,3]]`},
		{`[{"a":[{"a":9,"b":0}],"b":0}]`, `[{"a":[{"a":0,"c":0}],"b":0}]`},
		{`{"a":[{"a":9,"b":[]},1],"b":2}`, `{"a":[{"a":9,"b":{}},0],"b":1}`},
		{`{"a":9,"b":9,"c":0}`, `{"a":0,"b":0,"d":0}`},
		{`{"a":0,"b":9}`, `{"a":1,"b":0}`},
	} {
		a, b := v(t, c[0]), v(t, c[1])
		if order.Cmp(a, b) != -1 || order.Cmp(b, a) != 1 {
			t.Errorf("%s and %s: %d, the other way round %d", c[0], c[1], order.Cmp(a, b), order.Cmp(b, a))
		}
	}
}

// TestCmpWritten is P5.1: what is written otherwise, but is one value, is the same.
func TestCmpWritten(t *testing.T) {
	for _, c := range [][2]string{
		{`{"b":1,"a":[2.0]}`, `{"a":[2],"b":10e-1}`}, {`{"a":1,"a":2}`, `{"a":2}`}, {`"\u0061/"`, `"a\/"`}, {" [ ] ", "[]"}, {"{ }", "{}"},
		{`[{"x":[{"y":{}}]},[[]],-0]`, `[{"x":[{"y":{}}]},[[]],0]`},
	} {
		if n := order.Cmp(v(t, c[0]), v(t, c[1])); n != 0 {
			t.Errorf("%s and %s: %d", c[0], c[1], n)
		}
	}
}

// cases are keys with what Sort and Groups tell of them, by hand.
var cases = []struct {
	keys   string
	sorted []int
	groups [][]int
	rises  bool
}{
	{"[]", nil, nil, true},
	{"[7]", []int{0}, [][]int{{0}}, true},
	{"[{}]", []int{0}, [][]int{{0}}, true},
	{"[1,2]", []int{0, 1}, [][]int{{0}, {1}}, true},
	{"[2,1]", []int{1, 0}, [][]int{{1}, {0}}, false},
	{"[1,1]", []int{0, 1}, [][]int{{0, 1}}, true},
	{"[1,1.0,10e-1]", []int{0, 1, 2}, [][]int{{0, 1, 2}}, true},
	{"[[],[],[],[],[]]", []int{0, 1, 2, 3, 4}, [][]int{{0, 1, 2, 3, 4}}, true},
	{`[null,false,true,-1,"",[],{}]`, []int{0, 1, 2, 3, 4, 5, 6}, [][]int{{0}, {1}, {2}, {3}, {4}, {5}, {6}}, true},
	{`[{},[],"",-1,true,false,null]`, []int{6, 5, 4, 3, 2, 1, 0}, [][]int{{6}, {5}, {4}, {3}, {2}, {1}, {0}}, false},
	{`[null,0,0,0,"a","a",[1]]`, []int{0, 1, 2, 3, 4, 5, 6}, [][]int{{0}, {1, 2, 3}, {4, 5}, {6}}, true},
	{`[3,1,3,"a",1]`, []int{1, 4, 0, 2, 3}, [][]int{{1, 4}, {0, 2}, {3}}, false},
	{"[1,2,3,4,5,0]", []int{5, 0, 1, 2, 3, 4}, [][]int{{5}, {0}, {1}, {2}, {3}, {4}}, false},
	{"[5,0,1,2,3,4]", []int{1, 2, 3, 4, 5, 0}, [][]int{{1}, {2}, {3}, {4}, {5}, {0}}, false},
	{"[1,0,1,0,1,0,1]", []int{1, 3, 5, 0, 2, 4, 6}, [][]int{{1, 3, 5}, {0, 2, 4, 6}}, false},
	{"[1,0,1,0,1,0,1,0]", []int{1, 3, 5, 7, 0, 2, 4, 6}, [][]int{{1, 3, 5, 7}, {0, 2, 4, 6}}, false},
	{"[9,10,-9,-10,0,1e2]", []int{3, 2, 4, 0, 1, 5}, [][]int{{3}, {2}, {4}, {0}, {1}, {5}}, false},
	{`["b","","ab","é","a","b"]`, []int{1, 4, 2, 0, 5, 3}, [][]int{{1}, {4}, {2}, {0, 5}, {3}}, false},
	{`[[2],[1,1],[],[1],[1,1]]`, []int{2, 3, 1, 4, 0}, [][]int{{2}, {3}, {1, 4}, {0}}, false},
	{`[{"b":0},{"a":0,"c":0},{"a":1,"b":1},{},{"a":2},{"b":0}]`, []int{3, 4, 2, 1, 0, 5}, [][]int{{3}, {4}, {2}, {1}, {0, 5}}, false},
}

// TestSort is P5.1 and P5.3: places, with the answers by hand.
func TestSort(t *testing.T) {
	for _, c := range cases {
		if l := order.Sort(vs(t, c.keys)); !slices.Equal(l, c.sorted) {
			t.Errorf("%s: %v, not %v", c.keys, l, c.sorted)
		}
	}
}

// TestGroups is P5.1 and P5.4: places of the same keys, with the answers by hand.
func TestGroups(t *testing.T) {
	for _, c := range cases {
		if l := order.Groups(vs(t, c.keys)); !slices.EqualFunc(l, c.groups, slices.Equal) {
			t.Errorf("%s: %v, not %v", c.keys, l, c.groups)
		}
	}
}

// TestRises is P5.1: keys that are the same rise; one that is less, first, last or between, does not.
func TestRises(t *testing.T) {
	for _, c := range cases {
		if is := order.Rises(vs(t, c.keys)); is != c.rises {
			t.Errorf("%s: %v", c.keys, is)
		}
	}
	for s, want := range map[string]bool{
		"[0,1,2]": true, "[0,0,2]": true, "[0,2,2]": true, "[1,0,2]": false, "[0,2,1]": false, "[2,1,0]": false, "[0,1,2,3,2]": false, "[1,0,1,2,3]": false,
		"[[1],[1,0]]": true, "[[1,0],[1]]": false, `[{"a":9},{"a":0,"b":0}]`: true, `[{"a":0,"b":0},{"a":9}]`: false,
	} {
		if is := order.Rises(vs(t, s)); is != want {
			t.Errorf("%s: %v", s, is)
		}
	}
}

// TestNoKeys is P5.1: of no keys at all, nil or empty, there are no places, and they rise.
func TestNoKeys(t *testing.T) {
	for _, keys := range [][]api.Val{nil, {}, make([]api.Val, 0, 9)} {
		if len(order.Sort(keys)) != 0 || len(order.Groups(keys)) != 0 || !order.Rises(keys) {
			t.Error(order.Sort(keys), order.Groups(keys), order.Rises(keys))
		}
	}
}

// TestMany is P5.1, P5.3 and P5.4 for many keys, an odd number and an even one, each key at several places.
func TestMany(t *testing.T) {
	for _, many := range []int{999, 1000, 1023, 1024, 1025} {
		const kinds = 7
		keys, sorted, groups := make([]api.Val, many), []int(nil), make([][]int, kinds)
		for i := range keys {
			// Keys fall, and begin anew: the key of place i is a text of 6 - i%7 letters.
			keys[i] = v(t, `"`+strings.Repeat("k", kinds-1-i%kinds)+`"`)
			groups[kinds-1-i%kinds] = append(groups[kinds-1-i%kinds], i)
		}
		for _, g := range groups {
			sorted = append(sorted, g...)
		}
		if l := order.Sort(keys); !slices.Equal(l, sorted) {
			t.Errorf("%d keys: %v", many, l)
		}
		if l := order.Groups(keys); !slices.EqualFunc(l, groups, slices.Equal) {
			t.Errorf("%d keys: %v", many, l)
		}
		if order.Rises(keys) {
			t.Errorf("%d keys rise", many)
		}
	}
}
