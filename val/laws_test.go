package val_test

import (
	"math/rand"
	"slices"
	"testing"

	"loupe/api"
	"loupe/val"
)

// someNames are names for fields, the edges of their order among them, rising.
func someNames() []string {
	return []string{"", "\x00", " ", "10", "9", "A", "Z", "a", "a\x00", "aa", "ab", "b", "z", "\x7f", "é", "\ufffd", "\uffff", "𝄞"}
}

// someVal is a value of chance, and how deep it is, made by hand, without the calls that are tested.
func someVal(r *rand.Rand, room int) (api.Val, int) {
	kind := r.Intn(4)
	if room == 0 || kind > 1 {
		l := flat()
		return slices.Clone(l[r.Intn(len(l))]), 0
	}
	var names []string
	for _, name := range someNames() {
		if r.Intn(5) == 0 {
			names = append(names, name)
		}
	}
	v, deepest := api.Val{{Kind: api.Arr + kind, Many: len(names)}}, 0
	for _, name := range names {
		part, depth := someVal(r, room-1)
		if kind == 1 {
			part[0].Name = name
		}
		v = append(v, part...)
		deepest = max(deepest, depth)
	}
	return v, 1 + deepest
}

// someVals are values of chance, the same in each run.
func someVals(t *testing.T, many int) []api.Val {
	r := rand.New(rand.NewSource(3))
	l := append(flat(), none, bare, inner())
	for len(l) < many {
		v, depth := someVal(r, 5)
		if d := val.Depth(v); d != depth || !val.Right(v) {
			t.Fatalf("%+v: depth %d, not %d", v, d, depth)
		}
		l = append(l, v)
	}
	return l
}

// TestBackList is P2.2: a list's parts are what it was made of.
func TestBackList(t *testing.T) {
	l := someVals(t, 400)
	for from := range l {
		made := l[from:min(len(l), from+from%7)]
		v := val.List(made)
		if !val.Right(v) || v[0].Kind != api.Arr {
			t.Errorf("not right: %+v", v)
		}
		all(t, "parts", val.Parts(v), made)
		deepest := 0
		for _, part := range made {
			deepest = max(deepest, val.Depth(part))
		}
		if d := val.Depth(v); d != 1+deepest {
			t.Errorf("%+v: depth %d, not %d", v, d, 1+deepest)
		}
	}
}

// TestBackObject is P2.2: an object, made of its names and parts in whatever order, is it; a list of its parts likewise.
func TestBackObject(t *testing.T) {
	r := rand.New(rand.NewSource(4))
	for _, v := range someVals(t, 1000) {
		names, parts := val.Names(v), val.Parts(v)
		switch v[0].Kind {
		case api.Arr:
			exactly(t, "list", val.List(parts), v)
			continue
		case api.Obj:
		default:
			continue
		}
		for range 3 {
			w, err := val.Object(names, parts)
			if err != api.OK {
				t.Errorf("%+v: %d", v, err)
			}
			exactly(t, "object", w, v)
			r.Shuffle(len(names), func(i, k int) {
				names[i], names[k] = names[k], names[i]
				parts[i], parts[k] = parts[k], parts[i]
			})
		}
	}
}

// TestFields is P2.3: what is put is found; what is taken away is not; other fields stay.
func TestFields(t *testing.T) {
	x := api.Val{{Kind: api.Arr, Many: 1}, {Kind: api.Obj, Many: 1}, {Kind: api.True, Name: "a"}}
	for _, v := range someVals(t, 600) {
		if v[0].Kind != api.Obj {
			continue
		}
		for _, name := range someNames() {
			had, there := val.Field(v, name)
			if there != slices.Contains(val.Names(v), name) {
				t.Errorf("%q of %+v: %v", name, v, there)
			}
			with, without := val.With(v, name, x), val.Without(v, name)
			if got, ok := val.Field(with, name); !ok || !slices.Equal(got, x) {
				t.Errorf("%q put into %+v: %+v", name, v, got)
			}
			if got, ok := val.Field(without, name); ok || len(got) != 0 {
				t.Errorf("%q taken from %+v: %+v", name, v, got)
			}
			othersStay(t, v, with, name)
			othersStay(t, v, without, name)
			exactly(t, "taken again", val.Without(with, name), without)
			exactly(t, "put again", val.With(without, name, x), with)
			if there {
				exactly(t, "back", val.With(without, name, had), v)
				exactly(t, "put as it was", val.With(v, name, had), v)
			} else {
				exactly(t, "nothing to take", without, v)
			}
		}
	}
}

// othersStay holds all fields but the one of that name against each other.
func othersStay(t *testing.T, v, w api.Val, name string) {
	t.Helper()
	if !val.Right(w) {
		t.Errorf("not right: %+v", w)
	}
	for _, other := range someNames() {
		if other == name {
			continue
		}
		a, ok := val.Field(v, other)
		b, still := val.Field(w, other)
		if ok != still || !slices.Equal(a, b) {
			t.Errorf("%q beside %q: %+v, not %+v", other, name, b, a)
		}
	}
}

// TestUntouched is P2.1, by R4: nothing that is handed in changes, nor what lies behind its end, nor does an answer when what was handed in, or another answer, changes later.
func TestUntouched(t *testing.T) {
	mark := api.Node{Kind: 99, S: "mark"}
	roomy := func(v api.Val) api.Val { return append(append(make(api.Val, 0, 2*len(v)+20), v...), mark)[:len(v)] }
	v, x := roomy(inner()), roomy(val.List([]api.Val{yes, no}))
	names, l := []string{"z", "b", "m"}, []api.Val{v, x, v}
	object, _ := val.Object(names, l)
	answers := []api.Val{val.List(l), object, val.With(v, "b", x), val.With(v, "c", x), val.With(v, "e", x), val.Without(v, "a"), val.Without(v, "d"), val.Without(v, "e")}
	answers = append(answers, val.Parts(v)...)
	answers = append(answers, val.Parts(val.List(l))...)
	field, _ := val.Field(v, "d")
	answers = append(answers, field)
	if !slices.Equal(v, inner()) || !slices.Equal(x, api.Val{{Kind: api.Arr, Many: 2}, {Kind: api.True}, {Kind: api.False}}) || v[:len(v)+1][len(v)] != mark || x[:len(x)+1][len(x)] != mark {
		t.Error("what was handed in has changed:", v, x)
	}
	if !slices.Equal(names, []string{"z", "b", "m"}) || len(l) != 3 {
		t.Error("what was handed in has changed:", names)
	}
	before := make([]api.Val, len(answers))
	for i, a := range answers {
		before[i] = slices.Clone(a)
	}
	spoil := func(v api.Val) {
		for i := range v[:cap(v)] {
			v[:cap(v)][i] = mark
		}
	}
	spoil(v)
	spoil(x)
	for i, a := range answers {
		if !slices.Equal(a, before[i]) {
			t.Errorf("answer %d has changed: %+v", i, a)
		}
		spoil(a)
	}
}

// TestWrongRows is P2.1, by R1: a call ends without a panic, whatever it is given.
func TestWrongRows(t *testing.T) {
	for _, v := range append(wrong(), flat()...) {
		parts, names := val.Parts(v), val.Names(v)
		if len(v) == 0 || v[0].Kind != api.Arr && v[0].Kind != api.Obj {
			if len(parts) != 0 || len(names) != 0 {
				t.Errorf("parts of what has none: %+v", v)
			}
		}
		val.Depth(v)
		val.List([]api.Val{v, v})
		val.Object([]string{"a", "b"}, []api.Val{v, v})
		for _, name := range []string{"", "a", "b", "\xff"} {
			val.Field(v, name)
			val.Without(v, name)
			val.With(v, name, inner())
			val.With(inner(), name, v)
		}
		if !val.Same(v, v) {
			t.Errorf("not the same: %+v", v)
		}
	}
}

// TestDeep is P2.1 for as many values in one another as the document bounds, lists and objects by turns: by way of the row, not of each level over again.
func TestDeep(t *testing.T) {
	const deep = 1 << 16
	v := make(api.Val, deep)
	for i := range v {
		v[i] = api.Node{Kind: api.Arr + i%2, Many: 1}
		if i > 0 && i%2 == 0 {
			v[i].Name = "a"
		}
	}
	v[deep-1].Many = 0
	if !val.Right(v) || val.Depth(v) != deep {
		t.Error(val.Right(v), val.Depth(v))
	}
	if l := val.Parts(v); len(l) != 1 || val.Depth(l[0]) != deep-1 || !val.Same(val.List(l), v) {
		t.Error(len(l))
	}
	x, ok := val.Field(v[1:], "a")
	if !ok || !val.Right(x) || val.Depth(x) != deep-2 {
		t.Error(ok, len(x))
	}
	v[deep-1].Many = 1
	if val.Right(v) {
		t.Error("a part is not there")
	}
}

// TestWide is P2.1 for many parts: each is gone by once.
func TestWide(t *testing.T) {
	const wide = 1 << 18
	l := make([]api.Val, wide)
	for i := range l {
		l[i] = val.List([]api.Val{null})
	}
	v := val.List(l)
	if len(v) != 1+2*wide || !val.Right(v) || val.Depth(v) != 2 || len(val.Parts(v)) != wide {
		t.Error(len(v), val.Depth(v), len(val.Parts(v)))
	}
}
