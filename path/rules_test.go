package path_test

import (
	"slices"
	"strings"
	"testing"

	"loupe/api"
	"loupe/path"
	"loupe/val"
)

const huge = int(^uint(0) >> 1)

// roomy is a value with marks in the room behind its end.
func roomy(t *testing.T, s string) api.Val {
	x := v(t, s)
	mark := api.Node{Kind: 99, S: "mark"}
	return append(append(make(api.Val, 0, len(x)+9), x...), mark, mark, mark, mark)[:len(x)]
}

// TestUntouched is P6.1, by R4: nothing that is handed in changes, nor what lies behind its end, neither by the call nor by whoever writes into its answer.
func TestUntouched(t *testing.T) {
	const s, y = `{"a":[1,{"b":2,"c":{}}],"d":[]}`, `[7,{"e":null}]`
	for _, at := range []string{".", ".a", ".a[0]", ".a[1]", ".a[1].b", ".a[1].c", ".d", ".x", ".a[2]", ".d.d"} {
		steps := append(make(api.Path, 0, 9), p(t, at)...)
		copied := slices.Clone(steps)
		x, z := roomy(t, s), roomy(t, y)
		got, _ := path.Get(steps, x)
		with, _ := path.Set(steps, x, z)
		again, _ := path.Set(steps, x, z)
		want := slices.Clone(again)
		path.Apart(steps, steps[:len(steps)/2])
		path.Right(steps)
		path.Text(steps)
		for _, answer := range []api.Val{got, with} {
			for i := range answer[:cap(answer)] {
				answer[:cap(answer)][i] = api.Node{Kind: 77}
			}
		}
		if !slices.Equal(x[:len(x)+4], roomy(t, s)[:len(x)+4]) || !slices.Equal(z[:len(z)+4], roomy(t, y)[:len(z)+4]) || !slices.Equal(steps, copied) {
			t.Errorf("%s: what was handed in has changed", at)
		}
		if !slices.Equal(again, want) {
			t.Errorf("%s: an answer has changed", at)
		}
	}
}

// TestOwnSteps is P6.1, by R4: what is read is memory of its own.
func TestOwnSteps(t *testing.T) {
	one, two := p(t, ".a[0].b"), p(t, ".a[0].b")
	for i := range one[:cap(one)] {
		one[:cap(one)][i] = part(9)
	}
	if !slices.Equal(two, api.Path{field("a"), part(0), field("b")}) {
		t.Errorf("%+v", two)
	}
}

// wrongRows are rows that are no values.
func wrongRows() []api.Val {
	l := []api.Val{nil, {}}
	for _, kind := range []int{-1, api.Null, api.Str, api.Arr, api.Obj, 7, huge, -huge - 1} {
		for _, many := range []int{-huge - 1, -1, 0, 1, 2, huge} {
			node := api.Node{Kind: kind, Many: many, Name: "a", S: "\xff0", Neg: true, E: -huge}
			l = append(l, api.Val{node}, api.Val{node, node}, api.Val{node, {}, node, {}}, api.Val{{Kind: api.Arr, Many: 2}, node}, api.Val{{Kind: api.Obj, Many: 2}, node, node, {}})
		}
	}
	return l
}

// wrongPaths are paths that are not right.
func wrongPaths() []api.Path {
	l := []api.Path{nil}
	for _, step := range []api.Step{field("a"), part(0), part(1), part(-1), part(huge), part(-huge - 1), {N: 3}, {Name: "a", N: -1}, {Part: true, Name: "a"}, field("\xff"), field("\xed\xa0\x80 ")} {
		l = append(l, api.Path{step}, api.Path{field("a"), step}, api.Path{part(0), step, step}, slices.Repeat(api.Path{step}, 50))
	}
	return l
}

// TestWrongOnes is P6.1, by R1: a call ends without a panic, whatever it is given, and tells nothing beside an error.
func TestWrongOnes(t *testing.T) {
	rows := append(wrongRows(), v(t, `{"a":[1,{"a":null}]}`))
	for _, steps := range wrongPaths() {
		s := path.Text(steps)
		if got, at, err := path.Read(s); err != api.OK && (len(got) > 0 || at > len(s)) {
			t.Errorf("%q: %+v, %d at %d", s, got, err, at)
		}
		for _, x := range rows {
			got, err := path.Get(steps, x)
			if err != api.OK && len(got) > 0 {
				t.Errorf("get %+v of %+v: %+v, %d", steps, x, got, err)
			}
			for _, y := range []api.Val{nil, {}, {{Kind: api.Obj, Many: -1}}, {{}}} {
				with, failed := path.Set(steps, x, y)
				if failed != err || failed != api.OK && len(with) > 0 {
					t.Errorf("set %+v of %+v: %+v, %d", steps, x, with, failed)
				}
			}
		}
		for _, others := range wrongPaths() {
			if path.Apart(steps, others) != path.Apart(others, steps) {
				t.Errorf("%+v and %+v", steps, others)
			}
		}
	}
}

// TestDeep is P6.1 and P6.3 for as many values in one another as the document bounds, with a field behind each.
func TestDeep(t *testing.T) {
	const deep = 1 << 16
	x := make(api.Val, 0, 2*deep+1)
	for i := range deep {
		n := api.Node{Kind: api.Obj, Many: 2}
		if i > 0 {
			n.Name = "a"
		}
		x = append(x, n)
	}
	x = append(x, api.Node{Kind: api.Null, Name: "a"})
	for range deep {
		x = append(x, api.Node{Kind: api.True, Name: "b"})
	}
	if !val.Right(x) {
		t.Fatal("not right")
	}
	steps := alike(api.MaxSteps, field("a"))
	inner, err := path.Get(steps, x)
	if err != api.OK || len(inner) != 2*(deep-api.MaxSteps)+1 || !val.Right(inner) {
		t.Fatal(len(inner), err)
	}
	with, err := path.Set(steps, x, x)
	if got, _ := path.Get(steps, with); err != api.OK || !slices.Equal(got, x) || !val.Right(with) {
		t.Error(len(with), err)
	}
	steps[api.MaxSteps-1] = field("b")
	if last, err := path.Get(steps, x); err != api.OK || !slices.Equal(last, api.Val{{Kind: api.True}}) {
		t.Errorf("%+v, %d", last, err)
	}
}

// TestWide is P6.1 for the last part that a path can lead to, and for the one behind it.
func TestWide(t *testing.T) {
	x := make(api.Val, api.MaxPart+2)
	x[0] = api.Node{Kind: api.Arr, Many: api.MaxPart + 1}
	last := x[api.MaxPart+1:]
	last[0] = api.Node{Kind: api.Str, S: "last"}
	steps := p(t, ".[1000000]")
	if got, err := path.Get(steps, x); err != api.OK || !slices.Equal(got, last) {
		t.Errorf("%+v, %d", got, err)
	}
	with, err := path.Set(steps, x, v(t, "[2]"))
	if err != api.OK || len(with) != len(x)+1 || !val.Right(with) || with[len(x)].S != "2" {
		t.Error(len(with), err)
	}
	x[0].Many--
	if got, err := path.Get(steps, x[:len(x)-1]); err != api.ErrNone || len(got) > 0 {
		t.Errorf("%+v, %d", got, err)
	}
}

// TestLong is P6.1 for a long name, and for a long text that is none.
func TestLong(t *testing.T) {
	const long = 1 << 16
	for _, name := range []string{strings.Repeat("a", long), strings.Repeat(" ", long), strings.Repeat("\n", long), "1" + strings.Repeat("é", long)} {
		steps := alike(api.MaxSteps, field(name))
		if got, at, err := path.Read(path.Text(steps)); err != api.OK || at != 0 || !slices.Equal(got, steps) {
			t.Error(name[:1], err, at)
		}
	}
	for _, s := range []string{strings.Repeat(".", long), strings.Repeat("[", long), `."` + strings.Repeat("a", long), ".[" + strings.Repeat("0", long) + "]", "." + strings.Repeat(`"`, long)} {
		if got, _, err := path.Read(s); err != api.ErrForm || len(got) > 0 {
			t.Error(s[:3], err)
		}
	}
}
