package eval_test

import (
	"math/rand"
	"slices"
	"strconv"

	"loupe/api"
	"loupe/num"
	"loupe/path"
	"loupe/val"
)

func someOf[T any](r *rand.Rand, l []T) T { return l[r.Intn(len(l))] }

func someNames() []string { return []string{"a", "b", "é", "", "key", "value"} }

// someFlat is a value of chance that has no parts.
func someFlat(r *rand.Rand) api.Val {
	switch r.Intn(4) {
	case 0:
		return api.Val{{Kind: r.Intn(3)}}
	case 1:
		n, _ := num.Make(r.Intn(4) == 0, strconv.Itoa(r.Intn(4)), r.Intn(3)-1)
		return api.Val{n}
	}
	return api.Val{{Kind: api.Str, S: someOf(r, []string{"", "a", "b", "é𝄞", "aé€b", "key"})}}
}

// someValue is a value of chance; its lists' parts are often alike, or entries, so that much can be asked of them.
func someValue(r *rand.Rand, room int) api.Val {
	if room <= 0 || r.Intn(8) == 0 {
		return someFlat(r)
	}
	var l []api.Val
	switch r.Intn(5) {
	case 0:
		for range r.Intn(4) {
			l = append(l, someValue(r, room/2))
		}
		return val.List(l)
	case 1, 2:
		first := someValue(r, room/2)
		for range 1 + r.Intn(4) {
			l = append(l, varied(r, first))
		}
		return val.List(l)
	case 3:
		for range 1 + r.Intn(4) {
			entry, _ := val.Object([]string{"key", "value"}, []api.Val{{{Kind: api.Str, S: someOf(r, someNames())}}, someValue(r, room/2)})
			l = append(l, entry)
		}
		return val.List(l)
	}
	o, _ := val.Object(nil, nil)
	for range r.Intn(4) {
		o = val.With(o, someOf(r, someNames()), someValue(r, room/2))
	}
	return o
}

// varied is a value like that one, with other parts here and there.
func varied(r *rand.Rand, v api.Val) api.Val {
	if r.Intn(6) == 0 {
		return someFlat(r)
	}
	l := val.Parts(v)
	for i := range l {
		l[i] = varied(r, l[i])
	}
	switch v[0].Kind {
	case api.Arr:
		return val.List(l)
	case api.Obj:
		names := val.Names(v)
		if len(l) > 0 && r.Intn(6) == 0 {
			names, l = names[1:], l[1:]
		}
		o, _ := val.Object(names, l)
		return o
	}
	return v
}

// someStep is a step of chance, mostly one that v may be asked, and then mostly to what is there.
func someStep(r *rand.Rand, v api.Val) api.Step {
	parts := v[0].Kind == api.Arr
	if r.Intn(20) == 0 {
		parts = !parts
	}
	names := append(someNames(), val.Names(v)...)
	if parts {
		return api.Step{Part: true, N: r.Intn(3)}
	}
	return api.Step{Name: someOf(r, names[r.Intn(len(names)):])}
}

func somePath(r *rand.Rand, v api.Val) api.Path {
	var p api.Path
	for range r.Intn(4) {
		x, err := wordedPath(p, v)
		if err != api.OK {
			break
		}
		p = append(p, someStep(r, x))
	}
	return p
}

// someFilter is a right filter of chance, mostly one that v may be asked.
func someFilter(r *rand.Rand, v api.Val, room int) api.Filter {
	if room <= 1 || r.Intn(5) == 0 {
		return someBare(r, v)
	}
	switch r.Intn(7) {
	case 0, 1:
		part := someOf(r, append(val.Parts(v), api.Val{{}}))
		return does(someOf(r, []int{api.OMap, api.OVals}), someFilter(r, part, room-1))
	case 2:
		return does(api.OWhere, someCond(r, v, room-1))
	case 3:
		var l []api.Filter
		for range r.Intn(4) {
			l = append(l, someFilter(r, v, room/2))
		}
		return does(api.OTup, l...)
	case 4:
		var l []api.Filter
		names := someNames()
		r.Shuffle(len(names), func(i, k int) { names[i], names[k] = names[k], names[i] })
		for i := range r.Intn(4) {
			l = append(l, named(names[i], someFilter(r, v, room/2)))
		}
		return does(api.OObj, l...)
	}
	first := someFilter(r, v, room/2)
	for first[0].Op == api.OPipe {
		first = someFilter(r, v, room/2)
	}
	x, err := worded(first, v)
	if err != api.OK {
		x = someValue(r, 8)
	}
	return does(api.OPipe, first, someFilter(r, x, room/2))
}

// someBare is a right filter of one term.
func someBare(r *rand.Rand, v api.Val) api.Filter {
	var part api.Val
	if part = (api.Val{{}}); v[0].Kind == api.Arr && v[0].Many > 0 {
		part = val.Parts(v)[0]
	}
	step := someStep(r, v)
	l := []api.Filter{
		id(), field(step.Name), field(step.Name), does(api.OToE), says(api.ODel, path.Text(somePath(r, v))), says(api.ODel, path.Text(somePath(r, v))), does(api.OTup), does(api.OObj),
		counts(api.OPart, r.Intn(3)), counts(api.OTail, r.Intn(4)), does(api.ORev), does(api.OFromE), does(api.OFromE), says(api.OGroup, path.Text(somePath(r, part))), says(api.OSort, path.Text(somePath(r, part))),
	}
	switch v[0].Kind {
	case api.Obj:
		return someOf(r, l[:8])
	case api.Arr:
		return someOf(r, l[3:])
	case api.Str:
		return someOf(r, append(l[6:11:11], id()))
	}
	return someOf(r, l)
}

// someCond is a condition of chance, mostly one that v may be asked.
func someCond(r *rand.Rand, v api.Val, room int) api.Filter {
	switch kind := r.Intn(4); {
	case room <= 1 || kind == 0:
		p := somePath(r, v)
		c := someFlat(r)[0]
		if x, err := wordedPath(p, v); err == api.OK && len(x) == 1 && x[0].Kind < api.Arr && r.Intn(2) == 0 {
			c = x[0]
		}
		return compare(path.Text(p), r.Intn(6), c)
	case kind == 1:
		return does(api.PNot, someCond(r, v, room-1))
	default:
		return does(someOf(r, []int{api.PAnd, api.POr}), someCond(r, v, room/2), someCond(r, v, room/2))
	}
}

// opsOf are what the terms of a filter do, each once.
func opsOf(f api.Filter) []int {
	var l []int
	for _, t := range f {
		l = append(l, t.Op)
	}
	slices.Sort(l)
	return slices.Compact(l)
}
