package val_test

import (
	"math"
	"math/rand"
	"strings"
	"testing"
	"unicode/utf8"

	"loupe/api"
	"loupe/num"
	"loupe/val"
)

// wrong are rows that are no right values, each for one reason.
func wrong() []api.Val {
	null, arr, obj := api.Node{}, api.Node{Kind: api.Arr}, api.Node{Kind: api.Obj}
	of := func(kind, many int, l ...api.Node) api.Val { return append(api.Val{{Kind: kind, Many: many}}, l...) }
	l := []api.Val{
		nil, {},
		// Kinds that are none.
		{{Kind: -1}}, {{Kind: 7}}, {{Kind: math.MaxInt}}, {{Kind: math.MinInt}}, of(api.Arr, 1, api.Node{Kind: 7}), of(api.Obj, 1, api.Node{Kind: -1, Name: "a"}),
		// A node too many.
		{null, null}, {arr, null}, {obj, null}, {arr, arr}, {obj, {Name: "a"}}, of(api.Arr, 1, null, null), of(api.Obj, 1, api.Node{Name: "a"}, api.Node{Name: "b"}), of(api.Obj, 1, api.Node{Name: "a"}, null), of(api.Arr, 1, arr, arr), of(api.Arr, 1, api.Node{Kind: api.Arr, Many: 1}, null, null),
		// A node too few.
		of(api.Arr, 1), of(api.Obj, 1), of(api.Arr, 2, null), of(api.Obj, 2, api.Node{Name: "a"}), of(api.Arr, 1, api.Node{Kind: api.Arr, Many: 1}), of(api.Arr, 2, api.Node{Kind: api.Arr, Many: 1}, null), of(api.Arr, 2, null, api.Node{Kind: api.Obj, Many: 1}),
		// Many, below nought or far beyond.
		of(api.Arr, -1), of(api.Obj, -1), of(api.Arr, -1, null), of(api.Obj, -1, api.Node{Name: "a"}), of(api.Arr, math.MinInt), of(api.Obj, math.MinInt, null), of(api.Arr, math.MaxInt), of(api.Arr, math.MaxInt, null, null), of(api.Obj, math.MaxInt), of(api.Arr, 1, api.Node{Kind: api.Arr, Many: -1}), of(api.Arr, 2, api.Node{Kind: api.Arr, Many: -1}), of(api.Arr, 2, api.Node{Kind: api.Arr, Many: -1}, null),
		// Many that goes round to as many nodes as there are.
		{{Kind: api.Arr, Many: math.MaxInt}, {Kind: api.Arr, Many: math.MaxInt}, {Kind: api.Arr, Many: 4}},
		{{Kind: api.Arr, Many: 1 << 62}, {Kind: api.Arr, Many: 1 << 62}, {Kind: api.Arr, Many: 1 << 62}, {Kind: api.Arr, Many: 1<<62 + 3}},
		// Names where there may be none.
		of(api.Arr, 1, api.Node{Name: "a"}), of(api.Arr, 2, null, api.Node{Name: "a"}), of(api.Arr, 2, arr, api.Node{Kind: api.Str, Name: "a"}), {{Kind: api.Arr, Name: "a"}}, {{Kind: api.Obj, Name: "a"}}, {{Kind: api.Num, S: "1", Name: "a"}}, {{Kind: api.Str, Name: "a"}}, of(api.Obj, 1, api.Node{Kind: api.Arr, Many: 1, Name: "a"}, api.Node{Name: "b"}),
		// Names that do not rise.
		of(api.Obj, 2, api.Node{Name: "b"}, api.Node{Name: "a"}), of(api.Obj, 2, api.Node{Name: "a"}, api.Node{Name: ""}), of(api.Obj, 2, api.Node{Name: "9"}, api.Node{Name: "10"}), of(api.Obj, 2, api.Node{Name: "a"}, api.Node{Name: "B"}), of(api.Obj, 2, api.Node{Name: "ab"}, api.Node{Name: "a"}), of(api.Obj, 2, api.Node{Name: "𝄞"}, api.Node{Name: "\uffff"}), of(api.Obj, 3, api.Node{Name: "a"}, api.Node{Name: "c"}, api.Node{Name: "b"}), of(api.Obj, 3, api.Node{Name: "b"}, api.Node{Name: "a"}, api.Node{Name: "c"}),
		of(api.Obj, 2, api.Node{Kind: api.Obj, Many: 1, Name: "b"}, api.Node{Name: "0"}, api.Node{Name: "a"}), of(api.Obj, 2, api.Node{Kind: api.Arr, Many: 1, Name: "b"}, null, api.Node{Name: "a"}), of(api.Obj, 2, api.Node{Name: "a"}, api.Node{Kind: api.Obj, Many: 2, Name: "b"}, api.Node{Name: "z"}, api.Node{Name: "y"}),
		// A name twice.
		of(api.Obj, 2, null, null), of(api.Obj, 2, api.Node{Name: "a"}, api.Node{Name: "a"}), of(api.Obj, 3, api.Node{Name: "a"}, api.Node{Name: "b"}, api.Node{Name: "b"}), of(api.Obj, 2, api.Node{Kind: api.Obj, Many: 1, Name: "a"}, api.Node{Name: "0"}, api.Node{Name: "a"}), of(api.Obj, 2, api.Node{Kind: api.Arr, Name: "a"}, api.Node{Kind: api.Num, Name: "a"}),
		// No valid UTF-8.
		of(api.Obj, 1, api.Node{Name: "\xff"}), of(api.Obj, 1, api.Node{Name: "a\xc3"}), of(api.Obj, 1, api.Node{Name: "\xed\xa0\x80"}), of(api.Obj, 2, api.Node{Name: "a"}, api.Node{Name: "b\x80"}), of(api.Obj, 1, api.Node{Kind: api.Num, S: "1", Name: "\xff"}),
		{{Kind: api.Str, S: "\xff"}}, {{Kind: api.Str, S: "a\xc3"}}, {{Kind: api.Str, S: "\xed\xa0\x80"}}, {{Kind: api.Str, S: "\xc0\x80"}}, {{Kind: api.Str, S: "\xf4\x90\x80\x80"}}, of(api.Arr, 1, api.Node{Kind: api.Str, S: "\x80"}), of(api.Obj, 1, api.Node{Kind: api.Str, S: "\x80", Name: "a"}),
		// Numbers that are not right.
		{{Kind: api.Num, S: "10"}}, {{Kind: api.Num, S: "01"}}, {{Kind: api.Num, S: "0"}}, {{Kind: api.Num, S: "x"}}, {{Kind: api.Num, Neg: true}}, {{Kind: api.Num, E: 1}}, {{Kind: api.Num, S: "1", E: 1000}}, {{Kind: api.Num, S: "1", E: -1001}}, {{Kind: api.Num, S: strings.Repeat("1", 101)}}, of(api.Arr, 1, api.Node{Kind: api.Num, S: "10"}), of(api.Obj, 1, api.Node{Kind: api.Num, S: "10", Name: "a"}), of(api.Obj, 1, api.Node{Kind: api.Num, E: 1, Name: "a"}),
		// Parts where there may be none.
		{{Kind: api.Num, S: "1", Many: 1}, null}, {{Kind: api.Num, Many: -1}}, {{Kind: api.Str, S: "a", Many: 1}, null}, {{Kind: api.Str, Many: 1}}, {{Kind: api.Str, Many: -1}},
	}
	for _, kind := range []int{api.Null, api.False, api.True} {
		l = append(l, api.Val{{Kind: kind, Many: 1}, null}, api.Val{{Kind: kind, Many: 1}}, api.Val{{Kind: kind, Many: -1}}, api.Val{{Kind: kind, Name: "a"}}, of(api.Arr, 1, api.Node{Kind: kind, Many: 1}, null))
	}
	for _, n := range []api.Node{null, {Kind: api.False}, {Kind: api.True}, {Kind: api.Str, S: "a"}, arr, obj} {
		s, neg, up, down := n, n, n, n
		s.S, neg.Neg, up.E, down.E = "a", true, 1, -1
		for _, m := range []api.Node{s, neg, up, down} {
			if m == n {
				continue
			}
			inList := of(api.Arr, 2, m, null)
			m.Name = "a"
			inObject := of(api.Obj, 2, m, api.Node{Name: "b"})
			m.Name = ""
			l = append(l, api.Val{m}, inList, inObject)
		}
	}
	return l
}

// TestRight is P2.1: which values are right.
func TestRight(t *testing.T) {
	deep := val.List([]api.Val{val.List([]api.Val{val.List(nil), bare}), inner(), none})
	for _, v := range append(flat(), none, bare, inner(), deep,
		api.Val{{Kind: api.Obj, Many: 1}, {Name: ""}},
		api.Val{{Kind: api.Obj, Many: 3}, {Name: ""}, {Name: "\x00"}, {Name: "a"}},
		api.Val{{Kind: api.Obj, Many: 4}, {Name: "a"}, {Name: "a\x00"}, {Name: "aa"}, {Name: "b"}},
		api.Val{{Kind: api.Obj, Many: 4}, {Name: "10"}, {Name: "9"}, {Name: "B"}, {Name: "a"}},
		api.Val{{Kind: api.Obj, Many: 3}, {Name: "é"}, {Name: "\uffff"}, {Name: "𝄞"}},
		api.Val{{Kind: api.Obj, Many: 2}, {Kind: api.Obj, Many: 2, Name: "b"}, {Name: "a"}, {Name: "z"}, {Kind: api.Obj, Many: 1, Name: "c"}, {Name: ""}},
		api.Val{{Kind: api.Obj, Many: 2}, {Kind: api.Arr, Many: 1, Name: "a"}, {}, {Kind: api.Num, S: "1", E: 999, Name: "b"}},
		api.Val{{Kind: api.Obj, Many: 1}, {Kind: api.Num, Name: "a"}},
		api.Val{{Kind: api.Str, S: "\ufffd"}},
		api.Val{{Kind: api.Arr, Many: 2}, {Kind: api.Obj, Many: 1}, {Name: "a"}, {Kind: api.Obj, Many: 1}, {Name: "a"}},
	) {
		if !val.Right(v) {
			t.Errorf("not right: %+v", v)
		}
	}
	for i, v := range wrong() {
		if val.Right(v) {
			t.Errorf("right: %d: %+v", i, v)
		}
	}
}

// rightFrom goes down into a row as the chapter's words do, and tells where the value that it begins with ends; -1, if there is none.
func rightFrom(v api.Val, inObject bool) int {
	if len(v) == 0 || !inObject && v[0].Name != "" || !utf8.ValidString(v[0].Name) {
		return -1
	}
	n := v[0]
	n.Name = ""
	plain := api.Node{Kind: n.Kind}
	switch n.Kind {
	case api.Null, api.False, api.True:
		if n != plain {
			return -1
		}
	case api.Num:
		if !num.Right(n) {
			return -1
		}
	case api.Str:
		if plain.S = n.S; n != plain || !utf8.ValidString(n.S) {
			return -1
		}
	case api.Arr, api.Obj:
		if plain.Many = n.Many; n != plain || n.Many < 0 {
			return -1
		}
	default:
		return -1
	}
	end, ahead := 1, -1
	for i := 0; i < n.Many; i++ {
		long := rightFrom(v[end:], n.Kind == api.Obj)
		if long < 0 || n.Kind == api.Obj && ahead > 0 && v[ahead].Name >= v[end].Name {
			return -1
		}
		ahead, end = end, end+long
	}
	return end
}

// TestRightAny is P2.1: of all sorts of rows, the same are right as the words say.
func TestRightAny(t *testing.T) {
	r := rand.New(rand.NewSource(2))
	seldom := func(n int) bool { return r.Intn(n) == 0 }
	count := map[bool]int{}
	for range 300000 {
		v := make(api.Val, 1+r.Intn(6))
		for i := range v {
			n := api.Node{Kind: []int{api.Arr, api.Obj, api.Obj, api.Null, api.Num, api.Str}[r.Intn(6)]}
			if n.Kind >= api.Arr {
				n.Many = r.Intn(4)
			}
			if i > 0 && !seldom(3) {
				n.Name = []string{"a", "b", "c"}[r.Intn(3)]
			}
			if seldom(40) {
				n.S = []string{"1", "10", "\xff"}[r.Intn(3)]
			}
			if seldom(60) {
				n.Neg = true
			}
			if seldom(60) {
				n.E = r.Intn(3) - 1
			}
			if seldom(60) {
				n.Many = r.Intn(5) - 2
			}
			if seldom(60) {
				n.Name = "\x80"
			}
			v[i] = n
		}
		want := rightFrom(v, false) == len(v)
		count[want]++
		if val.Right(v) != want {
			t.Fatalf("%+v: %v", v, !want)
		}
	}
	if count[true] < 1000 || count[false] < 1000 {
		t.Error("too few of one sort:", count)
	}
}
