package eval_test

import (
	"math/rand"
	"testing"

	"loupe/api"
	"loupe/eval"
	"loupe/term"
	"loupe/text"
	"loupe/val"
)

// tally counts what is told, so that a test can hold that it has seen enough of each sort.
type tally map[string]int

func (c tally) holds(t *testing.T, least int, sorts ...string) {
	t.Helper()
	for _, sort := range sorts {
		if c[sort] < least {
			t.Errorf("too few of one sort: %v", c)
			return
		}
	}
}

// sort is what is told, but for which value it is.
func sort(told string) string {
	if told == none || told == wrong {
		return told
	}
	return "given"
}

func tells(t *testing.T, f api.Filter, v api.Val) string {
	t.Helper()
	x, err := eval.Eval(f, v)
	return told(t, x, err)
}

// TestWords is P10.1 and P10.2: filters of chance, of values of chance, give what the chapter's words say, which is right.
func TestWords(t *testing.T) {
	r := rand.New(rand.NewSource(1))
	ops := map[int]tally{}
	for op := range api.PNot + 1 {
		ops[op] = tally{}
	}
	for range 40000 {
		v := someValue(r, 12)
		f := someFilter(r, v, 1+r.Intn(12))
		if !val.Right(v) || !term.Right(f) {
			t.Fatalf("not right: %s, %s", term.Text(f), text.Compact(v))
		}
		x, err := worded(f, v)
		want, got := told(t, x, err), tells(t, f, v)
		if got != want {
			t.Fatalf("%s of %s: %s, not %s", term.Text(f), text.Compact(v), got, want)
		}
		for _, op := range opsOf(f) {
			ops[op][sort(got)]++
		}
	}
	for _, c := range ops {
		c.holds(t, 50, "given", none, wrong)
	}
}

// TestEachOp is P10.1 and P10.2: each bare filter of values of chance.
func TestEachOp(t *testing.T) {
	r := rand.New(rand.NewSource(2))
	ops := map[int]tally{}
	for range 40000 {
		v := someValue(r, 12)
		f := someBare(r, v)
		x, err := worded(f, v)
		want, got := told(t, x, err), tells(t, f, v)
		if got != want {
			t.Fatalf("%s of %s: %s, not %s", term.Text(f), text.Compact(v), got, want)
		}
		if ops[f[0].Op] == nil {
			ops[f[0].Op] = tally{}
		}
		ops[f[0].Op][sort(got)]++
	}
	for _, op := range []int{api.OField, api.OPart, api.OTail, api.OFromE, api.OGroup, api.OSort, api.ORev, api.ODel} {
		ops[op].holds(t, 100, "given", wrong)
	}
}

// TestPipe is P10.3: a pipe is the one and then the other, whichever two are piped first; a map of it is a pipe of maps.
func TestPipe(t *testing.T) {
	r := rand.New(rand.NewSource(3))
	pipes, maps := tally{}, tally{}
	for range 15000 {
		v := someValue(r, 12)
		f, g := someFilter(r, v, 1+r.Intn(8)), someFilter(r, v, 1+r.Intn(8))
		x, err := eval.Eval(f, v)
		want := told(t, x, err)
		if err == api.OK {
			g = someFilter(r, x, 1+r.Intn(8))
			want = tells(t, g, x)
		}
		if got := tells(t, term.Pipe(f, g), v); got != want {
			t.Fatalf("%s, then %s, of %s: %s, not %s", term.Text(f), term.Text(g), text.Compact(v), got, want)
		}
		pipes[sort(want)]++
		h := someFilter(r, someValue(r, 8), 1+r.Intn(4))
		if one, two := tells(t, term.Pipe(term.Pipe(f, g), h), v), tells(t, term.Pipe(f, term.Pipe(g, h)), v); one != two {
			t.Fatalf("%s, %s and %s of %s: %s and %s", term.Text(f), term.Text(g), term.Text(h), text.Compact(v), one, two)
		}
		l := val.List([]api.Val{v, varied(r, v), varied(r, v)})
		one, two := tells(t, does(api.OMap, term.Pipe(f, g)), l), tells(t, term.Pipe(does(api.OMap, f), does(api.OMap, g)), l)
		if one != two {
			t.Fatalf("map of %s, then %s, of %s: %s and %s", term.Text(f), term.Text(g), text.Compact(l), one, two)
		}
		maps[sort(one)]++
	}
	pipes.holds(t, 500, "given", none, wrong)
	maps.holds(t, 1000, "given", wrong)
}

// TestMapOfPipe is P10.3, of maps of objects, and of those whose halves give none.
func TestMapOfPipe(t *testing.T) {
	for _, f := range []string{".a", "select(. != 1)", "select(.a == 1)", "{a: .}", "[.]", ".", "map(.)", "to_entries", "reverse"} {
		for _, g := range []string{".a", ".[0]", "select(. > 1)", "[., .]", "del(.a)", "map(.)", "from_entries"} {
			for _, v := range []string{"[]", "{}", "[1,2]", `{"x":1,"y":2}`, `[{"a":1},{"a":{}}]`, `{"x":{"a":{"a":2}},"y":{}}`, `[[1,2],[]]`, `["ab",null]`, `[{"a":1},5]`, `{"a":[5],"b":{"a":1}}`} {
				one, two := tells(t, filterOf(t, "map("+f+" | "+g+")"), valueOf(t, v)), tells(t, filterOf(t, "map("+f+") | map("+g+")"), valueOf(t, v))
				if one != two {
					t.Errorf("%s, then %s, of %s: %s and %s", f, g, v, one, two)
				}
			}
		}
	}
}

// TestNot is P10.1 and P10.4: conditions of chance hold as the chapter's words say; not of not is as without; not of and is or of nots, not of or is and of nots.
func TestNot(t *testing.T) {
	r := rand.New(rand.NewSource(4))
	not := func(p api.Filter) api.Filter { return does(api.PNot, p) }
	seen := tally{}
	for range 20000 {
		v := someValue(r, 12)
		p, q := someCond(r, v, 1+r.Intn(8)), someCond(r, v, 1+r.Intn(8))
		if !term.Right(does(api.OWhere, p)) {
			t.Fatalf("not right: %s", term.Text(p))
		}
		got, want := toldOf(eval.Holds(p, v)), toldOf(wordedCond(p, v))
		if got != want {
			t.Fatalf("%s of %s: %s, not %s", term.Text(p), text.Compact(v), got, want)
		}
		seen[got]++
		if twice := toldOf(eval.Holds(not(not(p)), v)); twice != got {
			t.Fatalf("not of not, %s of %s: %s, not %s", term.Text(p), text.Compact(v), twice, got)
		}
		for op, other := range map[int]int{api.PAnd: api.POr, api.POr: api.PAnd} {
			one, two := toldOf(eval.Holds(not(does(op, p, q)), v)), toldOf(eval.Holds(does(other, not(p), not(q)), v))
			if one != two {
				t.Fatalf("%s and %s of %s: %s and %s", term.Text(p), term.Text(q), text.Compact(v), one, two)
			}
		}
	}
	seen.holds(t, 1000, yes, no, wrong)
}

// TestPaths is P10.1: what Follow and Delete tell of paths of chance, and that filters of these tell the same.
func TestPaths(t *testing.T) {
	r := rand.New(rand.NewSource(5))
	follows, deletes := tally{}, tally{}
	for range 40000 {
		v := someValue(r, 12)
		p := somePath(r, v)
		if r.Intn(3) == 0 {
			p = somePath(r, someValue(r, 12))
		}
		x, err := wordedPath(p, v)
		y, bad := eval.Follow(p, v)
		got, want := told(t, y, bad), told(t, x, err)
		if got != want || tells(t, stepByStep(p), v) != want {
			t.Fatalf("%v of %s: %s, not %s", p, text.Compact(v), got, want)
		}
		follows[sort(got)]++
		x, err = wordedDel(p, v)
		y, bad = eval.Delete(p, v)
		got, want = told(t, y, bad), told(t, x, err)
		if got != want {
			t.Fatalf("%v of %s: %s, not %s", p, text.Compact(v), got, want)
		}
		deletes[sort(got)]++
	}
	follows.holds(t, 2000, "given", wrong)
	deletes.holds(t, 2000, "given", wrong)
}
