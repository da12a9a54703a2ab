package eval_test

import (
	"math/rand"
	"slices"
	"strings"
	"sync"
	"testing"

	"loupe/api"
	"loupe/eval"
	"loupe/path"
)

// call is a call of the package, of a value, as a text.
type call func(v api.Val) (api.Val, api.Errno)

// calls are calls of each sort, by what they are.
func calls(t testing.TB) map[string]call {
	all := map[string]call{}
	for _, s := range []string{
		".", ".a", ".a[0]", ".[0]", ".[1:]", ".a | .", "map(.)", "map(select(. != 1))", "map_values(.)", "map_values([.])", "select(.a != 5)", "select(.a == 5)", "{x: ., b: .a}", "[., .]", "to_entries", "to_entries | from_entries", "from_entries", "group_by(.)", "sort_by(.)", "reverse", "del(.)", "del(.a)", "del(.a[0])", "del(.[1])", "del(.z)",
	} {
		f := filterOf(t, s)
		all[s] = func(v api.Val) (api.Val, api.Errno) { return eval.Eval(f, v) }
	}
	for _, s := range []string{".", ".a", ".a[0]", ".[1]", ".z"} {
		p := pathOf(t, s)
		all["Follow "+s] = func(v api.Val) (api.Val, api.Errno) { return eval.Follow(p, v) }
		all["Delete "+s] = func(v api.Val) (api.Val, api.Errno) { return eval.Delete(p, v) }
	}
	return all
}

func given() []string {
	return []string{"null", "7", `"aéb"`, "[1,[2,3],1]", `{"a":[1,{"b":2}],"z":"x"}`, `[{"key":"a","value":{"c":1}},{"key":"a"}]`, "[]", "{}"}
}

// TestArgumentsStay is P10.1, by R4: what is handed in, and what lies in the room behind its end, is not changed.
func TestArgumentsStay(t *testing.T) {
	const filters = "map(select(.a == 1)) | {x: [.[1:], reverse], y: sort_by(.b)} | del(.x[0])"
	roomy := func(v api.Val) api.Val { return append(v, slices.Repeat(api.Val{{Kind: 77}}, 8)...)[:len(v)] }
	for s, f := range calls(t) {
		for _, text := range given() {
			v := roomy(valueOf(t, text))
			want := slices.Clone(v[:cap(v)])
			f(v)
			if !slices.Equal(v[:cap(v)], want) {
				t.Errorf("%s: %s is changed", s, text)
			}
		}
	}
	f := filterOf(t, filters)
	f = append(f, slices.Repeat(api.Filter{{Op: 77}}, 8)...)[:len(f)]
	want := slices.Clone(f[:cap(f)])
	gave, err := eval.Eval(f, valueOf(t, `[{"a":1,"b":2},{"a":1,"b":1},{"a":2}]`))
	if got := told(t, gave, err); got != `{"x":[[{"a":1,"b":1},{"a":1,"b":2}]],"y":[{"a":1,"b":1},{"a":1,"b":2}]}` || !slices.Equal(f[:cap(f)], want) {
		t.Error(got, f)
	}
	eval.Holds(f[2:3], valueOf(t, "{}"))
	p := append(pathOf(t, ".a[0].b"), api.Step{N: 77}, api.Step{N: 78})[:3]
	steps := slices.Clone(p[:cap(p)])
	eval.Follow(p, valueOf(t, `{"a":[{"b":1}]}`))
	eval.Delete(p, valueOf(t, `{"a":[{"b":1}]}`))
	if !slices.Equal(p[:cap(p)], steps) || !slices.Equal(f[:cap(f)], want) {
		t.Error("changed:", p, f)
	}
}

// TestOwnMemory is P10.1, by R4: what is told is memory of its own: neither what was handed in nor what is told by another call is changed with it.
func TestOwnMemory(t *testing.T) {
	spoil := func(v api.Val) {
		for i := range v[:cap(v)] {
			v[:cap(v)][i] = api.Node{Kind: 77, Name: "spoilt"}
		}
	}
	for s, f := range calls(t) {
		for _, text := range given() {
			v := valueOf(t, text)
			one, err := f(v)
			want := told(t, one, err)
			two, _ := f(v)
			spoil(one)
			if told(t, v, api.OK) != told(t, valueOf(t, text), api.OK) {
				t.Errorf("%s: %s is changed with what is told", s, text)
			}
			if got := told(t, two, err); got != want {
				t.Errorf("%s of %s: %s, not %s", s, text, got, want)
			}
			spoil(v)
			if got := told(t, two, err); got != want {
				t.Errorf("%s of %s: changed with what was handed in: %s", s, text, got)
			}
		}
	}
}

// TestSame is P10.1, by R5: the same is told of the same, whoever asks, also where many ask at once, and whatever was asked ahead.
func TestSame(t *testing.T) {
	all := calls(t)
	var names, wants []string
	for s := range all {
		names = append(names, s)
	}
	slices.Sort(names)
	var values []api.Val
	for _, text := range given() {
		values = append(values, valueOf(t, text))
	}
	tell := func(s string) string {
		var l []string
		for _, v := range values {
			x, err := all[s](v)
			l = append(l, told(t, x, err))
		}
		return strings.Join(l, " ")
	}
	for _, s := range names {
		wants = append(wants, tell(s))
	}
	failed := make([]string, 16)
	var group sync.WaitGroup
	for i := range failed {
		group.Go(func() {
			for k := range 100 {
				if n := (i + k) % len(names); tell(names[n]) != wants[n] {
					failed[i] = names[n]
				}
			}
		})
	}
	group.Wait()
	if s := strings.Join(failed, ""); s != "" {
		t.Error(s)
	}
}

// TestNoNames is P10.2: what is given of a part has no name, and in an object the name of its place, wherever it comes from.
func TestNoNames(t *testing.T) {
	const v = `{"a":{"a":1},"b":[{"key":"k","value":{"c":2}}],"c":"x"}`
	givesAll(t,
		row{".a", v, `{"a":1}`}, row{".a.a", v, "1"}, row{"[.a, .c]", v, `[{"a":1},"x"]`}, row{"{z: .a, y: .c}", v, `{"y":"x","z":{"a":1}}`}, row{"map(.)", v, `[{"a":1},[{"key":"k","value":{"c":2}}],"x"]`}, row{"map_values(.)", v, v}, row{"map_values([.])", v, `{"a":[{"a":1}],"b":[[{"key":"k","value":{"c":2}}]],"c":["x"]}`},
		row{".b | from_entries", v, `{"k":{"c":2}}`}, row{".b | from_entries | .k", v, `{"c":2}`}, row{"to_entries | map(.value)", v, `[{"a":1},[{"key":"k","value":{"c":2}}],"x"]`}, row{".a | to_entries | .[0].key", v, `"a"`}, row{"map(select(. > \"\"))", v, `[{"a":1},[{"key":"k","value":{"c":2}}],"x"]`}, row{"{a: .b} | .a[0].value.c", v, "2"},
		row{"map_values({a: .}) | map_values(.a)", v, v}, row{".c | reverse", v, `"x"`}, row{".c | .[0:]", v, `"x"`}, row{"map(to_entries)", `{"a":[1]}`, `[[{"key":0,"value":1}]]`}, row{".b | sort_by(.value)", v, `[{"key":"k","value":{"c":2}}]`}, row{".b | group_by(.key)", v, `[[{"key":"k","value":{"c":2}}]]`},
	)
}

// TestStays is P10.1: what is made of a value, or of a part of it, leaves that as it is where it stands elsewhere.
func TestStays(t *testing.T) {
	const v = `[{"b":[3,1,2],"a":"xy"},{"b":[],"a":null}]`
	const want = `[{"a":"xy","b":[3,1,2]},{"a":null,"b":[]}]`
	for f, made := range map[string]string{
		"reverse": `[{"a":null,"b":[]},{"a":"xy","b":[3,1,2]}]`, "sort_by(.a)": `[{"a":null,"b":[]},{"a":"xy","b":[3,1,2]}]`, "group_by(.a)": `[[{"a":null,"b":[]}],[{"a":"xy","b":[3,1,2]}]]`, "del(.[0].b[1])": `[{"a":"xy","b":[3,2]},{"a":null,"b":[]}]`, "del(.[0])": `[{"a":null,"b":[]}]`, "map(.b | reverse)": "[[2,1,3],[]]", "map(.b | sort_by(.))": "[[1,2,3],[]]", "map_values(map_values([.]))": `[{"a":["xy"],"b":[[3,1,2]]},{"a":[null],"b":[[]]}]`,
		"map({z: .b, y: .a})": `[{"y":"xy","z":[3,1,2]},{"y":null,"z":[]}]`, "map(to_entries | reverse | from_entries)": want, ".[1:]": `[{"a":null,"b":[]}]`, ".[0].b | .[1:] | reverse": "[2,1]",
	} {
		gives(t, "[., ("+f+"), .]", v, "["+want+","+made+","+want+"]")
	}
}

// TestAnything is P10.1, by R1: no rows make a call fail, whatever they are; beside an error nothing is told.
func TestAnything(t *testing.T) {
	r := rand.New(rand.NewSource(6))
	numbers := []int{0, 0, 1, 1, 2, 3, -1, 7, 77, 1 << 40, -1 << 63, 1<<63 - 1}
	texts := []string{"", "a", ".", ".a", ".[0]", ".a[1]", "..", "[", "\xff", "12", "é"}
	node := func() api.Node {
		return api.Node{Kind: r.Intn(9) - 1, Many: someOf(r, numbers), Name: someOf(r, texts), S: someOf(r, texts), Neg: r.Intn(2) == 0, E: someOf(r, numbers)}
	}
	for range 60000 {
		var v api.Val
		var f api.Filter
		var p api.Path
		for range r.Intn(6) {
			v = append(v, node())
		}
		for range r.Intn(6) {
			f = append(f, api.Term{Op: r.Intn(22) - 1, Many: someOf(r, numbers), Name: someOf(r, texts), S: someOf(r, texts), N: someOf(r, numbers), C: node()})
		}
		for range r.Intn(4) {
			p = append(p, api.Step{Part: r.Intn(2) == 0, Name: someOf(r, texts), N: someOf(r, numbers)})
		}
		if x, err := eval.Eval(f, v); (err != api.OK) != (x == nil) || err != api.OK && err != api.ErrNone && err != api.ErrType {
			t.Fatal(f, v, x, err)
		}
		if is, err := eval.Holds(f, v); err != api.OK && (err != api.ErrType || is) {
			t.Fatal(f, v, err)
		}
		for _, ask := range []func(api.Path, api.Val) (api.Val, api.Errno){eval.Follow, eval.Delete} {
			if x, err := ask(p, v); (err != api.OK) != (x == nil) || err != api.OK && err != api.ErrType {
				t.Fatal(path.Text(p), v, x, err)
			}
		}
	}
}
