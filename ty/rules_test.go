package ty_test

import (
	"math"
	"math/rand"
	"slices"
	"strconv"
	"strings"
	"sync"
	"testing"

	"loupe/api"
	"loupe/ty"
)

// roomy is a type with marks in the room behind its end.
func roomy(t api.Type) api.Type {
	mark := api.Ty{Kind: 99, S: "mark"}
	return append(append(make(api.Type, 0, len(t)+9), t...), mark, mark, mark, mark)[:len(t)]
}

// spoil writes into all of a list, and into the room behind its end.
func spoil[T any](l []T) {
	l = l[:cap(l)]
	clear(l)
}

// TestUntouched is P12.1, by R4: nothing that is handed in changes, nor what lies behind its end, neither by the call nor by whoever writes into its answer.
func TestUntouched(t *testing.T) {
	r := rand.New(rand.NewSource(7))
	names, p := append(make([]string, 0, 9), "a", "b", "c"), append(make(api.Path, 0, 9), api.Step{Name: "a"})
	for range 2000 {
		x := roomy(someType(r, 1+r.Intn(12)))
		was := slices.Clone(x[:cap(x)])
		ty.Right(x)
		ty.Good(x)
		ty.Text(x)
		ty.Same(x, x)
		ty.Leaf(x, p)
		l := ty.Parts(x)
		for _, part := range l {
			spoil(part)
		}
		spoil(l)
		spoil(ty.Atoms(x))
		given := []api.Type{x, roomy(num()), x[:0], x}
		held := slices.Clone(given)
		spoil(ty.Made(x[0], names, given[:3]))
		spoil(ty.Made(x[0], nil, given[:2]))
		if !slices.Equal(x[:cap(x)], was) || !slices.EqualFunc(given, held, slices.Equal[api.Type]) || !slices.Equal(given[1][:3], roomy(num())[:3]) {
			t.Fatalf("%+v was %+v", x[:cap(x)], was)
		}
	}
	if !slices.Equal(names[:cap(names)], []string{"a", "b", "c", "", "", "", "", "", ""}) || !slices.Equal(p[:cap(p)], append(api.Path{{Name: "a"}}, make(api.Path, 8)...)) {
		t.Error(names, p)
	}
}

// TestOwnMemory is P12.1, by R4: an answer stays as it is, whoever writes into what was handed in, and into another answer; no two parts share memory.
func TestOwnMemory(t *testing.T) {
	r := rand.New(rand.NewSource(8))
	for range 2000 {
		x := roomy(someType(r, 1+r.Intn(12)))
		parts, again := ty.Parts(x), ty.Parts(x)
		atoms, more := ty.Atoms(x), ty.Atoms(x)
		made, other := ty.Made(x[0], nil, []api.Type{x, x}), ty.Made(x[0], nil, []api.Type{x, x})
		head := x[0]
		head.Many = 2
		want := slices.Concat(api.Type{head}, x, x)
		for i, part := range parts {
			spoil(part)
			if i+1 < len(parts) && !slices.Equal(parts[i+1], again[i+1]) {
				t.Fatalf("%+v: parts share memory", x)
			}
		}
		wantParts, wantAtoms := treeOf(slices.Clone(x)).kids, slices.Clone(more)
		spoil(atoms)
		spoil(made)
		spoil(x)
		if !slices.Equal(other, want) || !slices.Equal(more, wantAtoms) {
			t.Fatalf("%+v: an answer has changed", other)
		}
		for i, part := range again {
			row := wantParts[i].row()
			row[0].Name = ""
			if !slices.Equal(part, row) {
				t.Fatalf("%+v: a part has changed", part)
			}
		}
	}
}

// TestAsBefore is P12.1, by R5: what is answered is the same, asked again, in another order of other calls, and by many at once.
func TestAsBefore(t *testing.T) {
	r := rand.New(rand.NewSource(9))
	type asked struct {
		t           api.Type
		s           string
		right, good bool
		parts       []api.Type
	}
	var all []asked
	for range 500 {
		x := someType(r, 1+r.Intn(12))
		if r.Intn(3) == 0 {
			x = changed(r, x)
		}
		all = append(all, asked{x, ty.Text(x), ty.Right(x), ty.Good(x), ty.Parts(x)})
	}
	slices.Reverse(all)
	var group sync.WaitGroup
	for range 4 {
		group.Go(func() {
			for _, x := range all {
				if ty.Text(x.t) != x.s || ty.Right(x.t) != x.right || ty.Good(x.t) != x.good || !slices.EqualFunc(ty.Parts(x.t), x.parts, slices.Equal[api.Type]) {
					t.Errorf("%+v", x)
				}
			}
		})
	}
	group.Wait()
}

// wrongOnes are Tys with things in all fields, most of which may not be there.
func wrongOnes() []api.Ty {
	var l []api.Ty
	for kind := -1; kind <= 10; kind++ {
		for _, many := range []int{math.MinInt, -1, 0, 1, 2, 3, math.MaxInt} {
			l = append(l, api.Ty{Kind: kind, Many: many}, api.Ty{Kind: kind, Many: many, Name: "\xff", S: "\xff.", N: math.MinInt, C: api.Node{Kind: 9, Many: many, S: "\xff", Neg: true, E: math.MinInt}}, api.Ty{Kind: kind, Many: many, Name: "a", S: ".a", N: math.MaxInt, C: api.Node{Kind: api.Num, S: "x0", E: math.MaxInt}}, api.Ty{Kind: kind, Many: many, N: 8, S: "."})
		}
	}
	return append(l, api.Ty{Kind: math.MinInt, Many: 1}, api.Ty{Kind: math.MaxInt, Many: 1}, api.Ty{Kind: api.YAtom, N: 6}, api.Ty{Kind: api.YAtom, N: -1}, api.Ty{Kind: api.YAtom, C: api.Node{Kind: api.Arr, Many: 2}}, api.Ty{Kind: api.YAtom, C: api.Node{Kind: api.Obj, Many: -2}})
}

// anyPaths are paths, most of which are not right.
func anyPaths() []api.Path {
	return []api.Path{nil, {{}}, {{Name: "a"}}, {{Name: "\xff"}}, {{Name: "a", N: 1}}, {{Part: true, N: -1}}, {{Part: true, Name: "a"}}, {{Part: true, N: math.MaxInt}, {Name: "a"}}, slices.Repeat(api.Path{{Name: "a"}}, 50)}
}

// TestWrongOnes is P12.1, by R1: a call ends without a panic, whatever it is given.
func TestWrongOnes(t *testing.T) {
	rows := wrong()
	ones := wrongOnes()
	for i, x := range ones {
		y := ones[(i*7+3)%len(ones)]
		rows = append(rows, api.Type{x}, api.Type{x, y}, api.Type{x, {}, y, {}}, api.Type{{Kind: api.YObj, Many: 2}, x, y}, api.Type{{Kind: api.YScal, N: 8, Many: 2}, x, y}, api.Type{{Kind: api.YSort, S: ".a", Many: 1}, x, y}, api.Type{{Kind: api.YSort, S: ".a", Many: 1}, {Kind: api.YObj, Many: 2}, x, y}, api.Type{{Kind: api.YTup, Many: 2}, {}, {Kind: api.YTup, Many: 2}, x})
	}
	for i, x := range rows {
		right := ty.Right(x)
		if right != wordedRight(x) || ty.Good(x) && !right || !ty.Same(x, x) {
			t.Errorf("%+v: right: %v", x, right)
		}
		ty.Text(x)
		ty.Atoms(x)
		long := 0
		for _, part := range ty.Parts(x) {
			long += len(part)
			if len(part) == 0 || part[0].Name != "" {
				t.Errorf("%+v: part %+v", x, part)
			}
		}
		if long > max(0, len(x)-1) {
			t.Errorf("%+v: more in its parts than there is", x)
		}
		for _, p := range anyPaths() {
			if at, ok := ty.Leaf(x, p); !ok && at != 0 || ok && (at >= len(x) || x[at].Kind != api.YScal) {
				t.Errorf("%+v, %+v: %d, %v", x, p, at, ok)
			}
		}
		y := rows[(i*5+1)%len(rows)]
		for _, names := range [][]string{nil, {"a"}, {"a", "\xff"}, {"a", "b", "c"}} {
			if made := ty.Made(ones[i%len(ones)], names, []api.Type{x, y}); len(made) != 1+len(x)+len(y) || made[0].Many != 2 {
				t.Errorf("%+v and %+v: %+v", x, y, made)
			}
		}
	}
}

// deep is how many parts in one another the document bounds.
const deep = 1 << 16

// TestDeep is P12.1 for as many types in one another: by way of the row, not of each level over again.
func TestDeep(t *testing.T) {
	for _, x := range []struct {
		t             api.Ty
		ahead, behind string
		last          string
	}{
		{api.Ty{Kind: api.YArr, Many: 1}, "[", "]", ""},
		{api.Ty{Kind: api.YDict, Many: 1}, "{?: ", "}", ""},
		{api.Ty{Kind: api.YEnts, Many: 1}, "entries(", ")", ""},
		{api.Ty{Kind: api.YTup, Many: 2}, "tup(", ", num)", ""},
		{api.Ty{Kind: api.YObj, Many: 2, N: 1}, "{a: ", ", b: num, ?}", "b"},
	} {
		row := slices.Repeat(api.Type{x.t}, deep)
		row = append(row, num()...)
		for i := range row {
			if i > 0 && x.last != "" {
				row[i].Name = "a"
			}
		}
		if x.t.Many == 2 {
			row = append(row, slices.Repeat(named(x.last, num()), deep)...)
		}
		if !ty.Good(row) || ty.Right(row[:len(row)-1]) {
			t.Error(x.ahead, "not good, or right without its end")
		}
		if s := ty.Text(row); s != strings.Repeat(x.ahead, deep)+"num"+strings.Repeat(x.behind, deep) {
			t.Error(x.ahead, len(s))
		}
		l := ty.Parts(row)
		if len(l) != x.t.Many || len(l[0]) != len(row)-x.t.Many || !ty.Good(l[0]) {
			t.Error(x.ahead, len(l))
		}
		var names []string
		if x.last != "" {
			names = []string{"a", "b"}
			if at, ok := ty.Leaf(row, api.Path{{Name: "b"}}); at != len(row)-1 || !ok {
				t.Error(at, ok)
			}
		}
		if !ty.Same(ty.Made(row[0], names, l), row) {
			t.Error(x.ahead, "not made again")
		}
	}
}

// TestDeepPaths is P12.1 for as many lists by paths in one another: each path leads behind all that is within, and none is gone along over again.
func TestDeepPaths(t *testing.T) {
	const half = deep / 2
	row := append(slices.Repeat(api.Type{{Kind: api.YSort, Many: 1, S: ".b"}, {Kind: api.YObj, Many: 2, Name: "a"}}, half), named("a", num())...)
	row = append(row, slices.Repeat(named("b", num()), half)...)
	for i := range half {
		row[2*i].Name, row[2*i+1].Name = "a", ""
	}
	row[0].Name = ""
	if !ty.Good(row) || ty.Right(row[:len(row)-1]) {
		t.Error("not good, or right without its end")
	}
	last := slices.Clone(row)
	last[0].S = ".c"
	if ty.Right(last) {
		t.Error("right, and the outermost path leads nowhere")
	}
	last = slices.Clone(row)
	last[2*half-2].S = ".c"
	if ty.Right(last) {
		t.Error("right, and the innermost path leads nowhere")
	}
}

// TestWide is P12.1 for many parts, and many atoms, of which each is gone by once or nearly so.
func TestWide(t *testing.T) {
	const wide = 1 << 17
	row, object, scal := api.Type{{Kind: api.YTup, Many: wide}}, api.Type{{Kind: api.YObj, Many: wide}}, api.Type{{Kind: api.YScal, N: 8, Many: wide}}
	var names []string
	for i := range wide {
		name := strconv.Itoa(wide + i)
		names = append(names, name)
		row = append(row, list(num())...)
		object = append(object, named(name, num())...)
		scal = append(scal, than(api.Ne, node(strconv.Itoa(i)))...)
	}
	if !ty.Good(row) || len(ty.Parts(row)) != wide || !ty.Same(ty.Made(row[0], nil, ty.Parts(row)), row) {
		t.Error("list", len(row))
	}
	if s := ty.Text(row); s != "tup("+strings.Repeat("[num], ", wide-1)+"[num])" {
		t.Error(len(s))
	}
	if !ty.Good(object) || !ty.Same(ty.Made(object[0], names, ty.Parts(object)), object) {
		t.Error("object", len(object))
	}
	if at, ok := ty.Leaf(object, api.Path{{Name: names[wide-1]}}); at != wide || !ok {
		t.Error(at, ok)
	}
	if !ty.Good(scal) || len(ty.Atoms(scal)) != wide {
		t.Error("atoms", len(scal))
	}
	if all := by(api.YGroup, "."+`"`+names[wide-1]+`"`, object); !ty.Good(all) {
		t.Error("grouped", len(all))
	}
	object[wide].Name = object[wide-1].Name
	if ty.Right(object) {
		t.Error("right, with a name twice")
	}
}
