package order_test

import (
	"slices"
	"testing"

	"loupe/api"
	"loupe/order"
	"loupe/val"
)

// TestUntouched is P5.1, by R4: nothing that is handed in changes, nor what lies behind its end; and no list of an answer shares memory with another, or with an answer before.
func TestUntouched(t *testing.T) {
	mark := api.Node{Kind: 99, S: "mark"}
	roomy := func(s string) api.Val {
		x := v(t, s)
		return append(append(make(api.Val, 0, len(x)+5), x...), mark)[:len(x)]
	}
	texts := []string{`{"a":[2,{"b":1}],"c":0}`, "1", `{"a":[2,{"b":1}],"c":0}`, `"x"`, "1", "[]", `{"a":[1,{"b":1}],"d":0}`}
	keys := make([]api.Val, 0, len(texts)+1)
	for _, s := range texts {
		keys = append(keys, roomy(s))
	}
	keys = append(keys, api.Val{mark})[:len(texts)]
	sorted, groups := order.Sort(keys), order.Groups(keys)
	order.Rises(keys)
	order.Cmp(keys[0], keys[6])
	for i, s := range texts {
		if !val.Same(keys[i], v(t, s)) || keys[i][:len(keys[i])+1][len(keys[i])] != mark {
			t.Errorf("what was handed in has changed: %+v", keys[i])
		}
	}
	if !val.Same(keys[:len(texts)+1][len(texts)], api.Val{mark}) {
		t.Error("what lies behind the keys has changed")
	}
	for i, g := range groups {
		for k := range g[:cap(g)] {
			g[:cap(g)][k] = 100 + i
		}
	}
	for i, g := range groups {
		for _, at := range g {
			if at != 100+i {
				t.Errorf("groups share memory: %v", groups)
			}
		}
	}
	if want := []int{1, 4, 3, 5, 0, 2, 6}; !slices.Equal(sorted, want) || !slices.Equal(order.Sort(keys), want) {
		t.Error(sorted, order.Sort(keys))
	}
}

// wrong are rows that are no values.
func wrong() []api.Val {
	const huge = int(^uint(0) >> 1)
	l := []api.Val{nil, {}}
	for _, kind := range []int{-1, api.Null, api.Num, api.Str, api.Arr, api.Obj, 7, huge, -huge - 1} {
		for _, many := range []int{-huge - 1, -1, 0, 1, 2, huge} {
			node := api.Node{Kind: kind, Many: many, Name: "n", S: "\xff0", Neg: true, E: -huge}
			l = append(l, api.Val{node}, api.Val{node, node}, api.Val{node, {}, node, {}}, api.Val{{Kind: api.Arr, Many: 2}, node}, api.Val{{Kind: api.Obj, Many: 2}, node, node, {}})
		}
	}
	return l
}

// TestWrongRows is P5.1, by R1: a call ends without a panic, whatever it is given, and each place is told once.
func TestWrongRows(t *testing.T) {
	rows := append(wrong(), v(t, `{"a":[1,{"b":null}],"n":"x"}`), v(t, "[1,[2]]"))
	for _, a := range rows {
		for _, b := range rows {
			if c := order.Cmp(a, b); c < -1 || c > 1 {
				t.Errorf("%+v and %+v: %d", a, b, c)
			}
		}
		if c := order.Cmp(a, a); c != 0 {
			t.Errorf("%+v and itself: %d", a, c)
		}
	}
	order.Rises(rows)
	l := order.Sort(rows)
	if grouped := slices.Concat(order.Groups(rows)...); !slices.Equal(grouped, l) {
		t.Error(grouped)
	}
	slices.Sort(l)
	for i, at := range l {
		if i != at || len(l) != len(rows) {
			t.Fatal(l)
		}
	}
}

// TestNamedNumbers is P5.1: a field that is a number is held against another by its number alone.
func TestNamedNumbers(t *testing.T) {
	a := api.Val{{Kind: api.Obj, Many: 1}, {Kind: api.Num, Name: "a", S: "2"}}
	b := api.Val{{Kind: api.Obj, Many: 1}, {Kind: api.Num, Name: "a", S: "1", E: 1}}
	if order.Cmp(a, b) != -1 || order.Cmp(b, a) != 1 || order.Cmp(a, slices.Clone(a)) != 0 {
		t.Error(order.Cmp(a, b), order.Cmp(b, a))
	}
	if a[1].Name != "a" || b[1].Name != "a" {
		t.Error("a name is lost")
	}
}

// nested is objects in one another, as many as deep, each with its inner one first and a field behind it, or a list's part by turns; the innermost is a leaf.
func nested(deep int, leaf api.Node, last string) api.Val {
	v := make(api.Val, 0, 2*deep+1)
	for i := range deep {
		n := api.Node{Kind: api.Obj - i%2, Many: 2}
		if i%2 == 1 {
			n.Name = "a"
		}
		v = append(v, n)
	}
	// The one around the leaf is a list, if deep is even.
	v = append(v, leaf)
	for i := deep - 1; i >= 0; i-- {
		n := api.Node{Kind: api.True}
		if i%2 == 0 {
			n.Name = "b"
		}
		if i == 0 {
			n.Name = last
		}
		v = append(v, n)
	}
	return v
}

// TestDeep is P5.1 for as many values in one another as the document bounds: names far behind what differs deep within are come to along the row, not anew from each level.
func TestDeep(t *testing.T) {
	const deep = 1 << 16
	a := nested(deep, api.Node{Kind: api.Num, S: "1"}, "b")
	b := nested(deep, api.Node{Kind: api.Num, S: "2"}, "b")
	c := nested(deep, api.Node{Kind: api.Num}, "c")
	d := nested(deep-2, api.Node{Kind: api.Num}, "b")
	for i, v := range []api.Val{a, b, c, d} {
		if !val.Right(v) {
			t.Fatal("not right:", i)
		}
	}
	keys := []api.Val{c, b, a, d, b}
	if l := order.Sort(keys); !slices.Equal(l, []int{3, 2, 1, 4, 0}) {
		t.Error(l)
	}
	if l := order.Groups(keys); len(l) != 4 || !slices.Equal(l[2], []int{1, 4}) {
		t.Error(l)
	}
	if order.Cmp(a, slices.Clone(a)) != 0 || order.Rises(keys) || !order.Rises([]api.Val{d, a, a, b, c}) {
		t.Error("order of the deep ones")
	}
}

// TestWide is P5.1 and P5.3 for many keys, and for keys of many parts.
func TestWide(t *testing.T) {
	const wide = 1 << 17
	keys := make([]api.Val, wide)
	for i := range keys {
		// An odd factor tells each of the places once.
		keys[i] = api.Val{{Kind: api.Str, S: string(rune(0x10000 + i*12345%wide))}}
	}
	l := order.Sort(keys)
	for i, at := range l {
		if len(l) != wide || at*12345%wide != i {
			t.Fatal(i, at)
		}
	}
	if g := order.Groups(keys); len(g) != wide {
		t.Error(len(g))
	}
	long := val.List(keys)
	longer := val.List(append(slices.Clone(keys), api.Val{{}}))
	if order.Cmp(long, longer) != -1 || order.Cmp(longer, long) != 1 || order.Cmp(long, slices.Clone(long)) != 0 {
		t.Error("order of the wide ones")
	}
}
