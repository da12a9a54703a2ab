package eval_test

import (
	"runtime"
	"slices"
	"strconv"
	"strings"
	"testing"

	"loupe/api"
	"loupe/eval"
	"loupe/val"
)

// most is how many parts in one another the document bounds.
const most = 1 << 16

// deepList is a list in as many, with a number in it.
func deepList(deep int) api.Val {
	return append(slices.Repeat(api.Val{{Kind: api.Arr, Many: 1}}, deep), api.Node{Kind: api.Num, S: "1"})
}

// deepEmpty is as many lists in one another, the innermost one of which has no part.
func deepEmpty(deep int) api.Val {
	return append(slices.Repeat(api.Val{{Kind: api.Arr, Many: 1}}, deep-1), api.Node{Kind: api.Arr})
}

// deepObject is likewise of objects, each as the field a of another one.
func deepObject(deep int) api.Val {
	v := slices.Repeat(api.Val{{Kind: api.Obj, Many: 1, Name: "a"}}, deep)
	v = append(v, api.Node{Kind: api.Num, S: "1", Name: "a"})
	v[0].Name = ""
	return v
}

// nested is a term in as many others of its kind, with a filter in it.
func nested(t api.Term, deep int, f api.Filter) api.Filter {
	t.Many = 1
	return append(slices.Repeat(api.Filter{t}, deep), f...)
}

// piped is as often the same filter, piped.
func piped(f api.Filter, many int) api.Filter {
	one := does(api.OPipe, f)
	one[0].Many = 2
	return append(slices.Repeat(one, many-1), f...)
}

// givesRow holds what a filter gives of a value, by rows: they may be deeper than what texts may be.
func givesRow(t *testing.T, what string, f api.Filter, v, want api.Val) {
	t.Helper()
	if x, err := eval.Eval(f, v); err != api.OK || !val.Same(x, want) || !val.Right(x) {
		t.Errorf("%s: %d nodes, %d", what, len(x), err)
	}
}

func refuses(t *testing.T, what string, f api.Filter, v api.Val, want api.Errno) {
	t.Helper()
	if x, err := eval.Eval(f, v); err != want || x != nil {
		t.Errorf("%s: %d nodes, %d", what, len(x), err)
	}
}

// TestDeep is P10.1 and P10.2: filters and values as deep as they may be.
func TestDeep(t *testing.T) {
	list, object, one := deepList(most), deepObject(most), deepList(0)
	condition := compare(".", api.Eq, one[0])
	givesRow(t, "id", id(), list, list)
	givesRow(t, "id of objects", id(), object, object)
	givesRow(t, "parts", piped(counts(api.OPart, 0), most), list, one)
	givesRow(t, "fields", piped(field("a"), most), object, one)
	givesRow(t, "fields of what is not there", piped(field("b"), most), object, api.Val{{}})
	givesRow(t, "pipes", piped(id(), most), list, list)
	givesRow(t, "maps", nested(api.Term{Op: api.OMap}, most, id()), list, list)
	givesRow(t, "maps of objects", nested(api.Term{Op: api.OMap}, most, id()), object, list)
	givesRow(t, "map_values", nested(api.Term{Op: api.OVals}, most, id()), object, object)
	givesRow(t, "lists", nested(api.Term{Op: api.OTup}, most, id()), one, list)
	givesRow(t, "lists that are piped", piped(does(api.OTup, id()), most), one, list)
	givesRow(t, "lists of lists", nested(api.Term{Op: api.OTup}, most, id()), list, deepList(2*most))
	f := slices.Repeat(api.Filter{{Op: api.OObj, Many: 1, Name: "a"}}, most)
	f[0].Name = ""
	givesRow(t, "objects", append(f, api.Term{Name: "a"}), one, object)
	for _, op := range []int{api.OMap, api.OVals} {
		where := does(api.OWhere, compare(".", api.Lt, one[0]))
		givesRow(t, "selects", nested(api.Term{Op: op}, most-1, where), deepList(most-1), deepEmpty(most-1))
	}
	refuses(t, "errors", nested(api.Term{Op: api.OMap}, most, field("a")), list, api.ErrType)
	refuses(t, "maps that are too many", nested(api.Term{Op: api.OMap}, most, id()), deepList(most-1), api.ErrType)
	givesRow(t, "nots", does(api.OWhere, nested(api.Term{Op: api.PNot}, most, condition)), one, one)
	refuses(t, "nots, one more", does(api.OWhere, nested(api.Term{Op: api.PNot}, most-1, condition)), one, api.ErrNone)
}

// TestDeepConditions is P10.1: as many conditions, joined from the left and from the right.
func TestDeepConditions(t *testing.T) {
	one := deepList(0)
	is, isNot, bad := compare(".", api.Eq, one[0]), compare(".", api.Ne, one[0]), compare(".a", api.Eq, one[0])
	fromLeft := func(op int, first api.Filter, many int, then api.Filter) api.Filter {
		return slices.Concat(slices.Repeat(api.Filter{{Op: op, Many: 2}}, many), first, slices.Repeat(then, many))
	}
	fromRight := func(op int, many int, then, last api.Filter) api.Filter {
		return append(slices.Repeat(append(api.Filter{{Op: op, Many: 2}}, then...), many), last...)
	}
	for _, x := range []struct {
		p    api.Filter
		want string
	}{
		{fromLeft(api.PAnd, is, most, is), yes}, {fromLeft(api.PAnd, isNot, most, bad), no}, {fromLeft(api.PAnd, bad, most, is), wrong}, {fromLeft(api.POr, isNot, most, isNot), no}, {fromLeft(api.POr, is, most, bad), yes}, {fromLeft(api.POr, bad, most, is), wrong},
		{fromRight(api.PAnd, most, is, is), yes}, {fromRight(api.PAnd, most, is, isNot), no}, {fromRight(api.PAnd, most, is, bad), wrong}, {fromRight(api.POr, most, isNot, isNot), no}, {fromRight(api.POr, most, isNot, is), yes}, {fromRight(api.POr, most, isNot, bad), wrong},
	} {
		if got := toldOf(eval.Holds(x.p, one)); got != x.want {
			t.Error(got, x.want, x.p[0].Op)
		}
	}
}

// TestDeepPaths is P10.1: a condition, keys and paths as long as they may be, of values that are deeper.
func TestDeepPaths(t *testing.T) {
	list, object := deepList(most), deepObject(most)
	parts, fields := slices.Repeat(api.Path{{Part: true}}, api.MaxSteps), slices.Repeat(api.Path{{Name: "a"}}, api.MaxSteps)
	if x, err := eval.Follow(parts, list); err != api.OK || !val.Same(x, deepList(most-api.MaxSteps)) {
		t.Error(len(x), err)
	}
	if x, err := eval.Follow(fields, object); err != api.OK || !val.Same(x, deepObject(most-api.MaxSteps)) {
		t.Error(len(x), err)
	}
	if x, err := eval.Delete(parts, list); err != api.OK || !val.Same(x, deepEmpty(api.MaxSteps)) {
		t.Error(len(x), err)
	}
	s := "." + strings.Repeat("[0]", api.MaxSteps)
	if got := toldOf(eval.Holds(compare(s, api.Gt, api.Node{Kind: api.Str}), list)); got != yes {
		t.Error(got)
	}
	two := val.List([]api.Val{list, deepList(most - 1), list})
	for op, want := range map[int]api.Val{
		api.OSort:  val.List([]api.Val{deepList(most - 1), list, list}),
		api.OGroup: val.List([]api.Val{val.List([]api.Val{deepList(most - 1)}), val.List([]api.Val{list, list})}),
	} {
		givesRow(t, "keys", says(op, s), two, want)
		givesRow(t, "whole keys", says(op, "."), two, want)
	}
}

// TestWide is P10.1: values and filters of as many parts beside one another: none is gone along again for each one.
func TestWide(t *testing.T) {
	const many = 2 * most
	var b strings.Builder
	for i := range many {
		b.WriteString(`{"k":` + strconv.Itoa(i*7%many) + `,"l":[` + strconv.Itoa(i%3) + `]},`)
	}
	v := valueOf(t, "["+strings.TrimSuffix(b.String(), ",")+"]")
	for s, parts := range map[string]int{
		"map(.k)": many, "map(select(.l[0] == 0) | .l)": many/3 + 1, "map_values(.l[0])": many, "to_entries | map(.value)": many, "map(to_entries | from_entries)": many,
		"sort_by(.k) | reverse": many, "group_by(.l)": 3, ".[1000:]": many - 1000, "reverse": many, "del(.[99999])": many - 1,
	} {
		x, err := eval.Eval(filterOf(t, s), v)
		if err != api.OK || x[0].Many != parts || !val.Right(x) {
			t.Error(s, len(x), err)
		}
	}
	names := make([]string, many)
	f := api.Filter{{Op: api.OObj, Many: many}}
	for i := range names {
		names[i] = "n" + strconv.Itoa(i*7%many)
		f = append(f, api.Term{Op: api.OId, Name: names[i]})
	}
	one := deepList(0)
	want, _ := val.Object(names, slices.Repeat([]api.Val{one}, many))
	givesRow(t, "an object", f, one, want)
	givesRow(t, "from_entries", does(api.OFromE), entriesOf(names, one[0]), want)
	givesRow(t, "from_entries, many of each name", does(api.OFromE), entriesOf(names, api.Node{Kind: api.Num}, api.Node{}, one[0]), want)
	givesRow(t, "map_values", does(api.OVals, id()), want, want)
	wide := api.Filter{{Op: api.OTup, Many: many}}
	for _, name := range names {
		wide = append(wide, api.Term{Op: api.OField, S: name})
	}
	givesRow(t, "fields", wide, want, append(api.Val{{Kind: api.Arr, Many: many}}, slices.Repeat(one, many)...))
}

// entriesOf is a list of entries: of each name with the first value, then of each name with the second one, and so on.
func entriesOf(names []string, values ...api.Node) api.Val {
	l := api.Val{{Kind: api.Arr, Many: len(names) * len(values)}}
	for _, v := range values {
		v.Name = "value"
		for _, name := range names {
			l = append(l, api.Node{Kind: api.Obj, Many: 2}, api.Node{Kind: api.Str, S: name, Name: "key"}, v)
		}
	}
	return l
}

// TestDoubled is P10.1: what a filter makes on the way may be far larger than what it gives, and than any memory.
func TestDoubled(t *testing.T) {
	for _, x := range []struct{ each, then, half, v, want string }{
		{"[., .] | ", ".", " | .[1]", `{"a":1}`, `{"a":1}`},
		{"[., .] | ", "map(.)", " | .[0]", "null", "null"},
		{"[., .] | ", "select(. == 1)", "", "1", none},
		{"[., .] | ", ".a", "", "1", wrong},
		{"[., .] | ", ".[1:] | reverse | del(.[0])", "", "1", "[]"},
		{"[., .] | ", "{a: .} | to_entries | from_entries | .a | del(.)", "", "1", "null"},
		{"{a: ., b: .} | ", "map_values(select(. == 1))", "", "1", "{}"},
	} {
		filter := func(times int) string { return strings.Repeat(x.each, times) + x.then + strings.Repeat(x.half, times) }
		few := filterOf(t, filter(16))
		// More times would be too many for what copies as much as it makes.
		if room := roomOf(func() { eval.Eval(few, valueOf(t, x.v)) }); room > 1<<20 {
			t.Errorf("%s: %d bytes", x.then, room)
			continue
		}
		gives(t, filter(60), x.v, x.want)
	}
}

// roomOf is how many bytes of memory are taken in a call.
func roomOf(call func()) uint64 {
	var ahead, behind runtime.MemStats
	runtime.ReadMemStats(&ahead)
	call()
	runtime.ReadMemStats(&behind)
	return behind.TotalAlloc - ahead.TotalAlloc
}
