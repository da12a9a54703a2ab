package term_test

import (
	"math"
	"math/rand"
	"slices"
	"strings"
	"testing"
	"unicode/utf8"

	"loupe/api"
	"loupe/path"
	"loupe/term"
	"loupe/val"
)

// flat are nodes of values without parts, of each kind.
func flat() []api.Node {
	return []api.Node{{}, {Kind: api.False}, {Kind: api.True}, number(""), number("1"), {Kind: api.Num, S: "15", Neg: true, E: -3}, {Kind: api.Num, S: "1", E: 999}, str(""), str("a\n"), str("é\ufffd𝄞")}
}

// noNodes are nodes with which no condition compares, each for one reason.
func noNodes() []api.Node {
	l := []api.Node{{Kind: api.Arr}, {Kind: api.Obj}, {Kind: api.Arr, Many: 1}, {Kind: api.Obj, Many: 1}, {Kind: -1}, {Kind: 7}, number("10"), number("01"), number("0"), number("x"), {Kind: api.Num, Neg: true}, {Kind: api.Num, E: 1}, {Kind: api.Num, S: "1", E: 1000}, {Kind: api.Num, S: "1", E: -1001}, str("\xff"), str("a\xc3"), str("\xed\xa0\x80")}
	for _, n := range []api.Node{{}, {Kind: api.False}, {Kind: api.True}, number("1"), str("a")} {
		one, less, name, neg, e, s := n, n, n, n, n, n
		one.Many, less.Many, name.Name, neg.Neg, e.E, s.S = 1, -1, "a", true, 1, "1"
		l = append(l, one, less, name)
		if n.Kind != api.Num {
			l = append(l, neg, e)
		}
		if n.Kind < api.Num {
			l = append(l, s)
		}
	}
	return l
}

// noPaths are no paths' texts.
func noPaths() []string {
	return []string{"", "a", " .", ". ", ".a ", "..", ".a.", ".[01]", ".[", ".[a]", ".[1000001]", ".[0:]", ".a.[0]", `."a"`, `."b c`, ".b c", `."\u00e9"`, ".é", ".\xff", ".a | .b", ".a?", strings.Repeat(".a", api.MaxSteps+1), "." + strings.Repeat("[0]", api.MaxSteps+1)}
}

// rights are right filters beside those whose texts are told.
func rights() []api.Filter {
	names := []api.Filter{named("", id()), named("a", id()), named("A", id()), named("a ", id()), named("é", id()), named("\ufffd", id()), named("\x00", id()), named("aa", id())}
	inner := does(api.OObj, named("a", id()), named("b", id()))
	l := []api.Filter{
		field("\ufffd\x00\n"), field(strings.Repeat("é", 1000)),
		does(api.OObj, names...), does(api.OObj, named("b", id()), named("a", id()), named("", id())), does(api.OObj, named("b", inner), named("a", inner), named("c", does(api.OTup, inner, inner))),
		does(api.OTup, slices.Repeat([]api.Filter{id()}, 1000)...),
		says(api.OGroup, strings.Repeat(".a", api.MaxSteps)), says(api.OSort, "."+strings.Repeat("[1000000]", api.MaxSteps)), says(api.ODel, `."é"."".a`),
		where(compare(".", api.Eq, api.Node{Kind: api.Num, S: strings.Repeat("1", api.MaxDigits)})),
	}
	for n := api.Eq; n <= api.Ge; n++ {
		for _, c := range flat() {
			l = append(l, where(compare(".a[0]", n, c)))
		}
	}
	return l
}

// wrong are rows that are no right filters, each for one reason.
func wrong() []api.Filter {
	cmp, pipe := one(), does(api.OPipe, id(), id())
	l := []api.Filter{
		// No terms.
		nil, {},
		// What no term does.
		counts(20, 0), counts(-1, 0), counts(math.MaxInt, 0), counts(math.MinInt, 0), does(api.OMap, counts(20, 0)), does(api.OTup, id(), counts(-1, 0)), where(counts(20, 0)),
		// A condition where a filter stands.
		cmp, does(api.PAnd, cmp, cmp), does(api.POr, cmp, cmp), does(api.PNot, cmp), does(api.OMap, cmp), does(api.OVals, does(api.PNot, cmp)), does(api.OPipe, cmp, id()), does(api.OPipe, id(), cmp), does(api.OTup, id(), cmp), does(api.OTup, does(api.POr, cmp, cmp)), does(api.OObj, named("a", cmp)), does(api.OObj, named("a", id()), named("b", does(api.PAnd, cmp, cmp))),
		// A filter where a condition stands.
		where(id()), where(where(cmp)), where(does(api.OTup)), where(pipe), where(does(api.PAnd, cmp, id())), where(does(api.PAnd, id(), cmp)), where(does(api.POr, where(cmp), cmp)), where(does(api.POr, cmp, field("a"))), where(does(api.PNot, id())), where(does(api.PNot, where(cmp))),
		// A first part of a pipe that is a pipe.
		does(api.OPipe, pipe, id()), does(api.OPipe, pipe, pipe), does(api.OMap, does(api.OPipe, pipe, id())), does(api.OPipe, id(), does(api.OPipe, pipe, id())),
		// A number beyond its bounds.
		counts(api.OPart, -1), counts(api.OPart, api.MaxPart+1), counts(api.OPart, math.MaxInt), counts(api.OPart, math.MinInt), counts(api.OTail, -1), counts(api.OTail, api.MaxPart+1), does(api.OMap, counts(api.OTail, api.MaxPart+1)),
		// A sign beyond the last one, and ahead of the first one.
		where(compare(".", api.Ge+1, number("1"))), where(compare(".", -1, number("1"))), where(compare(".", math.MaxInt, number("1"))), where(does(api.PNot, compare(".", 6, number("1")))),
		// A field that is no valid UTF-8.
		field("\xff"), field("a\xc3"), field("\xed\xa0\x80"), field("\xc0\x80"), field("\xf4\x90\x80\x80"), does(api.OMap, field("\x80")),
		// Names where there may be none.
		named("a", id()), named("a", does(api.OObj)), named("a", does(api.OObj, named("a", id()))), named("a", pipe), named("\xff", id()), does(api.OMap, named("a", id())), does(api.OVals, named("a", id())), does(api.OTup, named("a", id())), does(api.OTup, id(), named("a", id())), does(api.OPipe, named("a", id()), id()), does(api.OPipe, id(), named("a", id())), where(named("a", cmp)), where(does(api.PAnd, named("a", cmp), cmp)), where(does(api.POr, cmp, named("a", cmp))), where(does(api.PNot, named("a", cmp))), does(api.OObj, named("a", does(api.OTup, named("b", id())))), does(api.OObj, named("a", pipe[:1]), named("b", id()), id()),
		// A name twice.
		does(api.OObj, id(), id()), does(api.OObj, named("a", id()), named("a", id())), does(api.OObj, named("a", id()), named("b", id()), named("a", id())), does(api.OObj, named("b", id()), named("a", id()), named("a", id())), does(api.OObj, named("a", does(api.OObj, named("b", id()))), named("a", id())), does(api.OObj, named("a", does(api.OTup, id())), named("b", id()), named("a", does(api.OTup))), does(api.OMap, does(api.OObj, named("é", id()), named("é", id()))), does(api.OObj, named("x", does(api.OObj, named("a", id()), named("a", id())))),
		// A name that is no valid UTF-8.
		does(api.OObj, named("\xff", id())), does(api.OObj, named("a", id()), named("b\x80", id())), does(api.OObj, named("\xed\xa0\x80", does(api.OTup))),
		// A term too many at the end.
		{{}, {}}, append(pipe, id()...), append(field("a"), field("b")...), append(does(api.OTup), id()...), append(does(api.OObj), named("a", id())...), append(does(api.OTup, id()), id()...), append(does(api.OMap, id()), id()...), append(where(one()), one()...), append(says(api.ODel, "."), id()...),
		// A term too few at the end.
		{{Op: api.OTup, Many: 1}}, {{Op: api.OObj, Many: 1}}, {{Op: api.OMap, Many: 1}}, {{Op: api.OVals, Many: 1}}, {{Op: api.OWhere, Many: 1}}, {{Op: api.OPipe, Many: 2}}, {{Op: api.OPipe, Many: 2}, {}}, {{Op: api.OTup, Many: 2}, {}}, {{Op: api.OObj, Many: 2}, {Name: "a"}}, {{Op: api.OTup, Many: 1}, {Op: api.OTup, Many: 1}}, {{Op: api.OPipe, Many: 2}, {Op: api.OMap, Many: 1}, {}}, {{Op: api.OTup, Many: math.MaxInt}}, {{Op: api.OObj, Many: math.MaxInt}, {Name: "a"}},
		// So many that a sum of them goes round to as many as there are.
		{{Op: api.OTup, Many: math.MaxInt}, {Op: api.OTup, Many: math.MaxInt}, {Op: api.OTup, Many: 4}},
		{{Op: api.OTup, Many: 1 << 62}, {Op: api.OTup, Many: 1 << 62}, {Op: api.OTup, Many: 1 << 62}, {Op: api.OTup, Many: 1<<62 + 3}},
	}
	for _, n := range noNodes() {
		l = append(l, where(compare(".a", api.Eq, n)), where(does(api.PNot, compare(".", api.Ge, n))))
	}
	for _, s := range noPaths() {
		l = append(l, says(api.OGroup, s), says(api.OSort, s), says(api.ODel, s), where(compare(s, api.Eq, number("1"))), does(api.OTup, says(api.OSort, s)))
	}
	return append(append(l, wrongFields()...), wrongMany()...)
}

// sorts are filters with, as their first term, each that the table has, and conditions within a filter likewise: the place of the term is told.
func sorts() (l []api.Filter, at []int) {
	for _, f := range []api.Filter{id(), field("a"), counts(api.OPart, 1), counts(api.OTail, 1), does(api.OPipe, id(), id()), does(api.OMap, id()), does(api.OVals, id()), where(one()), does(api.OObj, named("a", id())), does(api.OTup, id()), does(api.OToE), does(api.OFromE), says(api.OGroup, "."), says(api.OSort, "."), does(api.ORev), says(api.ODel, ".a")} {
		l, at = append(l, f), append(at, 0)
	}
	for _, c := range []api.Filter{one(), does(api.PAnd, one(), two()), does(api.POr, one(), two()), does(api.PNot, one())} {
		l, at = append(l, where(c)), append(at, 1)
	}
	return l, at
}

// wrongFields are filters with something in a field of a term that has nothing there.
func wrongFields() []api.Filter {
	var l []api.Filter
	filters, places := sorts()
	for i, f := range filters {
		put := func(change func(*api.Term)) {
			g := slices.Clone(f)
			change(&g[places[i]])
			l = append(l, g, does(api.OMap, g))
		}
		op := f[places[i]].Op
		if f[places[i]].S == "" {
			put(func(t *api.Term) { t.S = "a" })
			put(func(t *api.Term) { t.S = "." })
		}
		if op != api.OPart && op != api.OTail && op != api.PCmp {
			put(func(t *api.Term) { t.N = 1 })
			put(func(t *api.Term) { t.N = -1 })
		}
		if op == api.PCmp {
			continue
		}
		for _, c := range []api.Node{{Kind: api.False}, {Kind: -1}, {Many: 1}, {Name: "a"}, {S: "a"}, {Neg: true}, {E: 1}, number("1"), str("")} {
			put(func(t *api.Term) { t.C = c })
		}
	}
	return l
}

// wrongMany are filters of which a term has a part more or less than it may, with as many terms behind it as it says, as long as there may be such.
func wrongMany() []api.Filter {
	var l []api.Filter
	filters, places := sorts()
	for i, f := range filters {
		at := places[i]
		for _, many := range []int{-1, 0, 1, 2, 3, math.MaxInt, math.MinInt} {
			if many == f[at].Many || many >= 0 && (f[at].Op == api.OObj || f[at].Op == api.OTup) {
				continue
			}
			g := slices.Clone(f[:at+1])
			g[at].Many = many
			l = append(l, g)
			for range max(0, min(many, 9)) {
				g = append(g, f[len(f)-1])
			}
			l = append(l, g)
		}
	}
	return l
}

// TestRight is P7.1: which filters are right.
func TestRight(t *testing.T) {
	l := rights()
	for _, f := range texted() {
		l = append(l, f)
	}
	filters, _ := sorts()
	for _, f := range append(l, filters...) {
		for _, g := range []api.Filter{f, does(api.OMap, f), does(api.OTup, id(), f, f), does(api.OObj, named("", f), named("a", f)), does(api.OPipe, id(), f)} {
			if !term.Right(g) {
				t.Errorf("not right: %+v", g)
			}
		}
	}
}

// TestWrong is P7.1: which are not.
func TestWrong(t *testing.T) {
	for i, f := range wrong() {
		if term.Right(f) {
			t.Errorf("right: %d: %+v", i, f)
		}
	}
}

// rightBeside tells whether a term has beside its parts, and its name, what the chapter's table says, and as many parts.
func rightBeside(t api.Term) bool {
	bare := t
	bare.Op, bare.Many, bare.Name = 0, 0, ""
	_, _, err := path.Read(t.S)
	c := t.C
	switch t.Op {
	case api.OId, api.OToE, api.OFromE, api.ORev:
		return t.Many == 0 && bare == api.Term{}
	case api.OField:
		return t.Many == 0 && utf8.ValidString(t.S) && bare == api.Term{S: t.S}
	case api.OPart, api.OTail:
		return t.Many == 0 && t.N >= 0 && t.N <= 1000000 && bare == api.Term{N: t.N}
	case api.OPipe, api.PAnd, api.POr:
		return t.Many == 2 && bare == api.Term{}
	case api.OMap, api.OVals, api.OWhere, api.PNot:
		return t.Many == 1 && bare == api.Term{}
	case api.OObj, api.OTup:
		return t.Many >= 0 && bare == api.Term{}
	case api.OGroup, api.OSort, api.ODel:
		return t.Many == 0 && err == api.OK && bare == api.Term{S: t.S}
	case api.PCmp:
		return t.Many == 0 && err == api.OK && t.N >= 0 && t.N <= 5 && val.Right(api.Val{c}) && c.Kind < api.Arr
	}
	return false
}

// rightFrom goes down into a row as the chapter's words do, and tells where the filter, or the condition, that it begins with ends; -1, if there is none.
func rightFrom(f api.Filter, condition bool) int {
	if len(f) == 0 || condition != (f[0].Op >= api.PCmp) || !rightBeside(f[0]) {
		return -1
	}
	end := 1
	var names []string
	for i := range f[0].Many {
		if end >= len(f) || i == 0 && f[0].Op == api.OPipe && f[end].Op == api.OPipe {
			return -1
		}
		names = append(names, f[end].Name)
		long := rightFrom(f[end:], f[0].Op == api.OWhere || f[0].Op > api.PCmp)
		if long < 0 {
			return -1
		}
		end += long
	}
	for i, name := range names {
		if f[0].Op == api.OObj && (!utf8.ValidString(name) || slices.Contains(names[:i], name)) || f[0].Op != api.OObj && name != "" {
			return -1
		}
	}
	return end
}

// TestRightAny is P7.1: of rows of chance, and of right ones of which a term is changed, the same are right as the words say.
func TestRightAny(t *testing.T) {
	r := rand.New(rand.NewSource(1))
	count := map[bool]int{}
	for range 200000 {
		f := someFilter(r, 1+r.Intn(12))
		for range r.Intn(3) {
			f = changed(r, f)
		}
		want := rightFrom(f, false) == len(f) && len(f) > 0 && f[0].Name == ""
		count[want]++
		if term.Right(f) != want {
			t.Fatalf("%+v: %v", f, !want)
		}
	}
	if count[true] < 50000 || count[false] < 50000 {
		t.Error("too few of one sort:", count)
	}
}

// changed is a row with one thing otherwise.
func changed(r *rand.Rand, f api.Filter) api.Filter {
	f = slices.Clone(f)
	at := r.Intn(len(f))
	names := []string{"", "a", "b", "\xff", ".", ".a"}
	switch r.Intn(9) {
	case 0:
		f[at].Name = names[r.Intn(len(names))]
	case 1:
		f[at].S = names[r.Intn(len(names))]
	case 2:
		f[at].N = []int{-1, 0, 1, 5, 6, api.MaxPart, api.MaxPart + 1}[r.Intn(7)]
	case 3:
		f[at].Many += r.Intn(3) - 1
	case 4:
		f[at].Op = r.Intn(22) - 1
	case 5:
		f[at].C = append(flat(), noNodes()...)[r.Intn(20)]
	case 6:
		f = slices.Insert(f, at, f[r.Intn(len(f))])
	case 7:
		if len(f) > 1 {
			f = slices.Delete(f, at, at+1)
		}
	default:
		other := r.Intn(len(f))
		f[at], f[other] = f[other], f[at]
	}
	return f
}
