package term_test

import (
	"math"
	"slices"
	"strconv"
	"strings"
	"testing"

	"loupe/api"
	"loupe/term"
)

// roomy is a filter with marks in the room behind its end.
func roomy(f api.Filter) api.Filter {
	mark := api.Term{Op: 99, S: "mark"}
	return append(append(make(api.Filter, 0, len(f)+9), f...), mark, mark, mark, mark)[:len(f)]
}

// spoil writes into all of a list, and into the room behind its end.
func spoil(f api.Filter) {
	for i := range f[:cap(f)] {
		f[:cap(f)][i] = api.Term{Op: 77}
	}
}

// TestUntouched is P7.1, by R4: nothing that is handed in changes, nor what lies behind its end, neither by the call nor by whoever writes into its answer; and no two parts share memory.
func TestUntouched(t *testing.T) {
	a, pipe := field("a"), does(api.OPipe, field("b"), does(api.OMap, id()))
	object := does(api.OObj, named("x", pipe), named("y", a), named("", does(api.OTup, pipe, a)))
	for _, x := range []api.Filter{id(), a, pipe, object, does(api.OPipe, object, pipe), where(does(api.PAnd, one(), two()))} {
		for _, y := range []api.Filter{a, pipe, object} {
			f, g := roomy(x), roomy(y)
			parts, again := term.Parts(f), term.Parts(f)
			made, more := term.Pipe(f, g), term.Pipe(f, g)
			want, long := slices.Clone(more), term.Text(f)
			if !term.Right(f) || !term.Same(f, f) || term.Text(f) != long {
				t.Errorf("%+v", f)
			}
			for i, part := range parts {
				spoil(part)
				if i+1 < len(parts) && !slices.Equal(parts[i+1], again[i+1]) {
					t.Errorf("parts share memory: %+v", x)
				}
			}
			spoil(made)
			if !slices.Equal(f[:len(f)+4], roomy(x)[:len(f)+4]) || !slices.Equal(g[:len(g)+4], roomy(y)[:len(g)+4]) {
				t.Errorf("%+v, %+v: what was handed in has changed", x, y)
			}
			spoil(f)
			spoil(g)
			if !slices.Equal(more, want) || !slices.EqualFunc(again, split(x), func(f, row api.Filter) bool { return slices.Equal(named(row[0].Name, f), row) }) {
				t.Errorf("%+v, %+v: an answer has changed", x, y)
			}
		}
	}
}

// wrongTerms are terms with things in all fields, most of which may not be there.
func wrongTerms() []api.Term {
	var l []api.Term
	for op := -1; op <= 20; op++ {
		for _, many := range []int{math.MinInt, -1, 0, 1, 2, 3, math.MaxInt} {
			l = append(l, api.Term{Op: op, Many: many}, api.Term{Op: op, Many: many, Name: "\xff", S: "\xff.", N: math.MinInt, C: api.Node{Kind: 9, Many: many, S: "\xff", Neg: true, E: math.MinInt}}, api.Term{Op: op, Many: many, Name: "a", N: math.MaxInt, C: api.Node{Kind: api.Num, S: "x0", E: math.MaxInt}})
		}
	}
	return append(l, api.Term{Op: math.MinInt, Many: 1}, api.Term{Op: math.MaxInt, Many: 1}, api.Term{Op: api.PCmp, S: ".", N: 6}, api.Term{Op: api.PCmp, S: ".", N: -1}, api.Term{Op: api.PCmp, S: ".", C: api.Node{Kind: api.Arr, Many: 2}}, api.Term{Op: api.PCmp, S: ".", C: api.Node{Kind: api.Obj, Many: -2}})
}

// TestWrongOnes is P7.1, by R1: a call ends without a panic, whatever it is given.
func TestWrongOnes(t *testing.T) {
	rows := append(wrong(), does(api.OTup, id(), field("a")))
	terms := wrongTerms()
	for i, x := range terms {
		y := terms[(i*7+3)%len(terms)]
		rows = append(rows, api.Filter{x}, api.Filter{x, y}, api.Filter{x, {}, y, {}}, api.Filter{{Op: api.OObj, Many: 2}, x, y}, api.Filter{{Op: api.OPipe, Many: 2}, x, y}, api.Filter{{Op: api.OPipe, Many: 2}, {}, {Op: api.OPipe, Many: 2}, x}, api.Filter{{Op: api.PAnd, Many: 2}, x, y})
	}
	for i, f := range rows {
		right := term.Right(f)
		if right != (len(f) > 0 && f[0].Name == "" && rightFrom(f, false) == len(f)) {
			t.Errorf("%+v: right: %v", f, right)
		}
		term.Text(f)
		long := 0
		for _, part := range term.Parts(f) {
			long += len(part)
			if len(part) == 0 || part[0].Name != "" {
				t.Errorf("%+v: part %+v", f, part)
			}
		}
		if long > max(0, len(f)-1) {
			t.Errorf("%+v: more in its parts than there is", f)
		}
		g := rows[(i*5+1)%len(rows)]
		if n := len(term.Pipe(f, g)); n != len(f)+len(g)+1 {
			t.Errorf("%+v, then %+v: %d terms", f, g, n)
		}
		if !term.Same(f, f) {
			t.Errorf("not the same: %+v", f)
		}
	}
}

// deep is how many parts in one another the document bounds.
const deep = 1 << 16

// TestDeep is P7.1 for as many filters in one another: by way of the row, not of each level over again.
func TestDeep(t *testing.T) {
	for _, x := range []struct {
		t                     api.Term
		ahead, inner, between string
		behind                string
	}{
		{api.Term{Op: api.OMap, Many: 1}, "map(", ".", "", ")"},
		{api.Term{Op: api.OTup, Many: 2}, "[", ".", ", .", "]"},
		{api.Term{Op: api.OObj, Many: 2}, "{a: ", ".", ", b: .", "}"},
	} {
		f := slices.Repeat(api.Filter{x.t}, deep)
		for i := range f {
			if i > 0 && x.t.Op == api.OObj {
				f[i].Name = "a"
			}
		}
		f = append(f, api.Term{Name: f[1].Name})
		if x.t.Many == 2 {
			last := api.Term{}
			if x.t.Op == api.OObj {
				last.Name = "b"
			}
			f = append(f, slices.Repeat(api.Filter{last}, deep)...)
		}
		if !term.Right(f) || term.Right(f[:len(f)-1]) {
			t.Error(x.ahead, "not right, or right without its end")
		}
		if s := term.Text(f); s != strings.Repeat(x.ahead, deep)+x.inner+strings.Repeat(x.between+x.behind, deep) {
			t.Error(x.ahead, len(s))
		}
		if l := term.Parts(f); len(l) != x.t.Many || len(l[0]) != len(f)-x.t.Many || !term.Right(l[0]) {
			t.Error(x.ahead, len(l))
		}
	}
}

// TestDeepConditions is P7.1 for as many conditions in one another.
func TestDeepConditions(t *testing.T) {
	for _, op := range []int{api.PNot, api.PAnd, api.POr} {
		many, ahead, behind := 2, "(", ") and .a == 1"
		switch op {
		case api.PNot:
			many, behind = 1, " | not)"
		case api.POr:
			behind = ") or .a == 1"
		}
		c := slices.Repeat(api.Filter{{Op: op, Many: many}}, deep)
		c = append(c, slices.Repeat(one(), 1+deep*(many-1))...)
		if f := where(c); !term.Right(f) || term.Right(f[:len(f)-1]) {
			t.Error(behind, "not right, or right without its end")
		}
		// The outermost one of those that are joined has no brackets.
		want := strings.Repeat(ahead, deep-many+1) + ".a == 1" + behind[(many-1)*len(")"):] + strings.Repeat(behind, deep-1)
		if s := term.Text(c); s != want {
			t.Error(behind, len(s), len(want))
		}
	}
}

// TestLongPipe is P7.1 and P7.2 for as many filters piped: Pipe goes along them once.
func TestLongPipe(t *testing.T) {
	var l []api.Term
	for range deep - 1 {
		l = append(l, api.Term{Op: api.OPipe, Many: 2}, api.Term{Op: api.OField, S: "a"})
	}
	f := api.Filter(append(l, field("b")...))
	made := term.Pipe(f, f)
	if !term.Right(made) || len(made) != 2*len(f)+1 || term.Text(made) != term.Text(f)+" | "+term.Text(f) {
		t.Error(len(made))
	}
	if s := term.Text(f); s != strings.Repeat(".a | ", deep-1)+".b" {
		t.Error(len(s))
	}
}

// TestWide is P7.1 for many parts, of which each is gone by once, and many names, of which none comes twice but the last one.
func TestWide(t *testing.T) {
	const wide = 1 << 18
	list, object := api.Filter{{Op: api.OTup, Many: wide}}, api.Filter{{Op: api.OObj, Many: wide}}
	for i := range wide {
		list = append(list, does(api.OMap, id())...)
		object = append(object, named(strconv.Itoa(i*7%wide), id())...)
	}
	for _, f := range []api.Filter{list, object} {
		if !term.Right(f) || len(term.Parts(f)) != wide {
			t.Error(term.Right(f), len(term.Parts(f)))
		}
	}
	if s := term.Text(list); s != "["+strings.Repeat("map(.), ", wide-1)+"map(.)]" {
		t.Error(len(s))
	}
	object[wide].Name = object[1].Name
	if term.Right(object) {
		t.Error("right, with a name twice")
	}
}
