package order_test

import (
	"bytes"
	"math/rand"
	"slices"
	"testing"

	"loupe/api"
	"loupe/num"
	"loupe/order"
	"loupe/text"
	"loupe/val"
)

// less is the chapter's section Words, word by word, and so slow.
func less(a, b api.Val) bool {
	x, y := a[0], b[0]
	if x.Kind != y.Kind {
		return x.Kind < y.Kind
	}
	switch x.Kind {
	case api.Num:
		return num.Cmp(x, y) < 0
	case api.Str:
		return bytes.Compare([]byte(x.S), []byte(y.S)) < 0
	case api.Arr:
		return lessParts(val.Parts(a), val.Parts(b))
	case api.Obj:
		if p, q := names(a), names(b); !val.Same(p, q) {
			return less(p, q)
		}
		return lessParts(val.Parts(a), val.Parts(b))
	}
	return false
}

// lessParts is by the first parts that are not the same; else by how many there are.
func lessParts(l, k []api.Val) bool {
	for i := range min(len(l), len(k)) {
		if !val.Same(l[i], k[i]) {
			return less(l[i], k[i])
		}
	}
	return len(l) < len(k)
}

// names are an object's, as a list of strings.
func names(o api.Val) api.Val {
	var l []api.Val
	for _, name := range val.Names(o) {
		l = append(l, api.Val{{Kind: api.Str, S: name}})
	}
	return val.List(l)
}

// someVal is a value of chance, with few leaves and names, so that many are the same in much of them.
func someVal(r *rand.Rand, room int) api.Val {
	leaves := []api.Val{
		{{Kind: api.Null}}, {{Kind: api.False}}, {{Kind: api.True}},
		{{Kind: api.Num}}, {{Kind: api.Num, S: "1"}}, {{Kind: api.Num, S: "1", E: 1}}, {{Kind: api.Num, S: "2", Neg: true}},
		{{Kind: api.Str}}, {{Kind: api.Str, S: "a"}}, {{Kind: api.Str, S: "ab"}}, {{Kind: api.Str, S: "é"}},
	}
	kind := r.Intn(5)
	if room == 0 || kind > 3 {
		return leaves[r.Intn(len(leaves))]
	}
	var l []api.Val
	var names []string
	for _, name := range []string{"", "a", "ab", "é"} {
		if r.Intn(2) == 0 {
			l, names = append(l, someVal(r, room-1)), append(names, name)
		}
	}
	if kind < 2 {
		return val.List(l)
	}
	o, _ := val.Object(names, l)
	return o
}

// changed is a value with one leaf of chance, or one name, another: alike in all but that.
func changed(r *rand.Rand, v api.Val) api.Val {
	parts, names := val.Parts(v), val.Names(v)
	if len(parts) == 0 {
		return someVal(r, 1)
	}
	i := r.Intn(len(parts))
	if v[0].Kind == api.Arr {
		parts[i] = changed(r, parts[i])
		return val.List(parts)
	}
	if r.Intn(3) == 0 {
		return val.With(val.Without(v, names[i]), "zz", parts[i])
	}
	return val.With(v, names[i], changed(r, parts[i]))
}

// someVals are right values of chance, the same in each run, with some that are alike behind each.
func someVals(seed int64, many int) []api.Val {
	r := rand.New(rand.NewSource(seed))
	var l []api.Val
	for len(l) < many {
		v := someVal(r, 5)
		l = append(l, v, changed(r, v), changed(r, v))
	}
	return l
}

// TestOrder is P5.1 and P5.2: Cmp tells what the Words say; the other way round, the other; and 0 just of what is one.
func TestOrder(t *testing.T) {
	l := someVals(1, 900)
	told := map[int]int{}
	for i, a := range l {
		if !val.Right(a) {
			t.Fatalf("not right: %+v", a)
		}
		for _, b := range l[i/3*3:] {
			c := order.Cmp(a, b)
			told[c]++
			want := 0
			if less(a, b) {
				want = -1
			} else if less(b, a) {
				want = 1
			}
			if c != want || order.Cmp(b, a) != -c || (c == 0) != val.Same(a, b) {
				t.Errorf("%s and %s: %d, not %d, the other way round %d", text.Compact(a), text.Compact(b), c, want, order.Cmp(b, a))
			}
		}
	}
	if len(told) != 3 || told[-1] < 1000 || told[0] < 1000 || told[1] < 1000 {
		t.Error("told too seldom:", told)
	}
}

// TestOrderThrough is P5.2: what is less than something less is less.
func TestOrderThrough(t *testing.T) {
	l := someVals(2, 150)
	for _, a := range l {
		for _, b := range l {
			if order.Cmp(a, b) > 0 {
				continue
			}
			for _, c := range l {
				if order.Cmp(b, c) <= 0 && order.Cmp(a, c) > 0 {
					t.Errorf("%s, %s, %s", text.Compact(a), text.Compact(b), text.Compact(c))
				}
			}
		}
	}
}

// TestSorted is P5.3: sorted keys rise, strictly or by their places; each place comes once.
func TestSorted(t *testing.T) {
	all := someVals(3, 600)
	for many := range 300 {
		keys := all[many : 2*many]
		l := order.Sort(keys)
		if len(l) != many {
			t.Fatalf("%d keys: %d places", many, len(l))
		}
		seen := make([]bool, many)
		sorted := make([]api.Val, many)
		for i, at := range l {
			if at < 0 || at >= many || seen[at] {
				t.Fatalf("%d keys: place %d", many, at)
			}
			seen[at], sorted[i] = true, keys[at]
			if i == 0 {
				continue
			}
			if c := order.Cmp(sorted[i-1], sorted[i]); c > 0 || c == 0 && l[i-1] > at {
				t.Errorf("%d keys: place %d ahead of place %d", many, l[i-1], at)
			}
		}
		if !order.Rises(sorted) {
			t.Errorf("%d keys: they do not rise", many)
		}
		if rises := slices.IsSorted(l); order.Rises(keys) != rises {
			t.Errorf("%d keys: rises %v, not %v", many, !rises, rises)
		}
	}
}

// TestGrouped is P5.4: groups, one behind the other, are what Sort tells; each has one key, and no two have the same.
func TestGrouped(t *testing.T) {
	all := someVals(4, 600)
	for many := range 300 {
		keys := all[many : 2*many]
		groups := order.Groups(keys)
		if l := slices.Concat(groups...); !slices.Equal(l, order.Sort(keys)) {
			t.Errorf("%d keys: %v", many, groups)
		}
		for i, g := range groups {
			if len(g) == 0 {
				t.Fatalf("%d keys: an empty group", many)
			}
			if i > 0 && order.Cmp(keys[groups[i-1][0]], keys[g[0]]) != -1 {
				t.Errorf("%d keys: group %d is not greater than the one ahead", many, i)
			}
			for k, at := range g {
				if !val.Same(keys[g[0]], keys[at]) || k > 0 && g[k-1] >= at {
					t.Errorf("%d keys: group %v", many, g)
				}
			}
		}
	}
}
