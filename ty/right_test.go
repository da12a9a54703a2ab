package ty_test

import (
	"math"
	"math/rand"
	"slices"
	"strings"
	"testing"
	"unicode/utf8"

	"loupe/api"
	"loupe/atom"
	"loupe/path"
	"loupe/ty"
)

// flat are nodes of values without parts, of each kind.
func flat() []api.Node {
	return []api.Node{{}, {Kind: api.False}, {Kind: api.True}, node("0"), node("1"), node("-1.5e-3"), node("1e999"), node(`""`), node(`"a\n"`), node(`"é\ufffd𝄞"`)}
}

// noNodes are nodes with which no atom compares, each for one reason.
func noNodes() []api.Node {
	l := []api.Node{{Kind: api.Arr}, {Kind: api.Obj}, {Kind: api.Arr, Many: 1}, {Kind: api.Obj, Many: 1}, {Kind: -1}, {Kind: 7}, {Kind: api.Num, S: "10"}, {Kind: api.Num, S: "01"}, {Kind: api.Num, S: "0"}, {Kind: api.Num, S: "x"}, {Kind: api.Num, Neg: true}, {Kind: api.Num, E: 1}, {Kind: api.Num, S: "1", E: 1000}, {Kind: api.Num, S: "1", E: -1001}, {Kind: api.Str, S: "\xff"}, {Kind: api.Str, S: "a\xc3"}}
	for _, n := range []api.Node{{}, {Kind: api.True}, node("1"), node(`"a"`)} {
		one, less, name := n, n, n
		one.Many, less.Many, name.Name = 1, -1, "a"
		l = append(l, one, less, name)
	}
	return append(l, api.Node{S: "a"}, api.Node{Neg: true}, api.Node{E: 1}, api.Node{Kind: api.Str, Neg: true}, api.Node{Kind: api.Str, E: 1})
}

// noPaths are no texts of paths of fields alone.
func noPaths() []string {
	return []string{"", "a", " .", ". ", ".a ", "..", ".a.", ".[0]", ".a[0]", ".a[0].b", ".[1].a", ".[", `."a"`, `."b c`, ".b c", `."\u00e9"`, ".é", ".\xff", ".a | .b", strings.Repeat(".a", api.MaxSteps+1)}
}

// chain is an object in objects, as many as there are fields on the way, with a type within.
func chain(steps int, within api.Type) api.Type {
	for range steps {
		within = shut(named("a", within))
	}
	return within
}

// rights are right types beside those whose texts are told.
func rights() []api.Type {
	inner := shut(named("a", num()), named("b", str()))
	l := []api.Type{
		shut(named("", num()), named("\x00", num()), named("A", num()), named("a", num()), named("a\x00", num()), named("aa", num()), named("b", num()), named("é", num()), named("\uffff", num()), named("\U00010000", num())),
		open(named("a", inner), named("b", inner)), shut(named("a", named("b", inner)), named("b", inner)),
		tup(slices.Repeat([]api.Type{anything()}, 1000)...), tup(inner, inner),
		scal(31, slices.Repeat([]api.Type{than(api.Ge, node("1"))}, 1000)...),
		sorted(".", num()), grouped(".", scal(31, than(api.Ne, node("0")))), sorted(strings.Repeat(".a", api.MaxSteps), chain(api.MaxSteps, num())), grouped(".a", open(named("a", str()))),
		sorted(".b", shut(named("a", anything()), named("b", num()), named("c", list(num())))), sorted(`.""."é x"`, shut(named("", shut(named("é x", num()))))),
		// Paths in one another, each of which goes its own way.
		sorted(".b", shut(named("a", sorted(".b", inner)), named("b", num()))), sorted(".a", shut(named("a", num()), named("b", grouped(".", num())))), grouped(".a.b", shut(named("a", shut(named("a", sorted(".", num())), named("b", num()))), named("b", sorted(".a", inner)))),
		sorted(".b.b", shut(named("a", inner), named("b", inner))), grouped(".a", shut(named("a", scal(1)), named("b", tup(sorted(".a", inner), inner)))),
	}
	for mask := 1; mask <= 31; mask++ {
		l = append(l, scal(mask))
	}
	for how := api.Eq; how <= api.Ge; how++ {
		for _, c := range flat() {
			l = append(l, scal(31, than(how, c)))
		}
	}
	return l
}

// wrong are rows that are no right types, each for one reason.
func wrong() []api.Type {
	a, inner := than(api.Ge, node("0")), shut(named("a", num()), named("b", str()))
	l := []api.Type{
		nil, {},
		// What is no kind.
		is(10), is(-1), is(math.MaxInt), is(math.MinInt), list(is(10)), tup(anything(), is(-1)), shut(named("a", is(10))), scal(8, is(10)),
		// An atom that is no part of a YScal, and a part of a YScal that is no atom.
		a, list(a), dict(a), entries(a), tup(anything(), a), shut(named("a", a)), open(named("a", a)), sorted(".", a), grouped(".a", shut(named("a", a))),
		scal(8, num()), scal(8, anything()), scal(8, a, tup()), scal(8, scal(8, a)), scal(8, shut()), scal(8, a, list(a)),
		// What is no mask, or an empty one.
		scal(0), scal(32), scal(-1), scal(33), scal(0, a), scal(math.MaxInt), scal(math.MinInt), scal(256 + 1), tup(num(), scal(0)),
		// What is no way to compare.
		scal(8, than(6, node("0"))), scal(8, than(-1, node("0"))), scal(8, a, than(math.MaxInt, node("0"))), scal(8, than(math.MinInt, node("0"))),
		// Neither 0 nor 1.
		of(api.Ty{Kind: api.YObj, N: 2}), of(api.Ty{Kind: api.YObj, N: -1}), of(api.Ty{Kind: api.YObj, N: math.MaxInt}, named("a", num())), list(of(api.Ty{Kind: api.YObj, N: 2})),
		// Names where there may be none.
		named("a", anything()), named("a", num()), named("a", inner), named("\xff", anything()), list(named("a", num())), dict(named("a", num())), entries(named("a", num())), tup(named("a", num())), tup(num(), named("a", num())), sorted(".", named("a", num())), grouped(".", named("a", num())), scal(8, named("a", a)), scal(8, a, named("a", a)), shut(named("a", list(named("b", num())))),
		// Names that do not rise.
		shut(num(), num()), shut(named("a", num()), named("a", num())), shut(named("b", num()), named("a", num())), open(named("a", num()), named("b", num()), named("a", num())), shut(named("a", num()), num()), shut(named("a", num()), named("A", num())), shut(named("é", num()), named("z", num())), shut(named("\U00010000", num()), named("\uffff", num())), shut(named("aa", num()), named("a", num())), shut(named("a\x00", num()), named("a", num())), shut(named("b", inner), named("a", num())), list(shut(named("a", inner), named("c", num()), named("b", num()))), shut(named("b", scal(8, a)), named("a", num())),
		// A name that is no valid UTF-8.
		shut(named("\xff", num())), shut(named("a", num()), named("b\x80", num())), open(named("\xed\xa0\x80", num())), shut(named("a\xc3", inner)),
		// A path that leads to no YScal.
		sorted(".", anything()), sorted(".", inner), grouped(".", list(num())), sorted(".", tup()), sorted(".", shut()), sorted(".", open()), grouped(".", sorted(".", num())), sorted(".a", num()), sorted(".a", anything()), sorted(".a", list(num())), sorted(".a", dict(num())), sorted(".a", entries(num())), grouped(".value", entries(num())), sorted(".a", shut()), grouped(".a", open()), sorted(".c", inner), sorted(".c", open(named("a", num()), named("b", num()))), sorted(".A", inner), sorted(".a.a", inner), sorted(".a.b", shut(named("a", open(named("a", num()))), named("b", num()))), sorted(".a", shut(named("a", inner))), sorted(".a", shut(named("a", anything()))), grouped(".a", shut(named("a", list(num())))), grouped(".a.b", shut(named("a", list(shut(named("b", num())))))), sorted(".a", sorted(".a", inner)), sorted(".a", list(inner)), sorted(".b", shut(named("a", inner), named("c", num()))), sorted(`.""`, inner), sorted(".a", shut(named("", num()))), sorted(".a", shut(named("a", shut()))), sorted(".a.b", shut(named("a", shut()), named("b", num()))), sorted(".b.a", shut(named("a", num()), named("b", dict(num())))),
		// One path leads there, but another one does not.
		sorted(".a", shut(named("a", num()), named("b", sorted(".c", inner)))), sorted(".b", shut(named("a", sorted(".b", inner)), named("c", num()))), tup(sorted(".a", inner), sorted(".c", inner)), tup(sorted(".c", inner), sorted(".a", inner)), sorted(strings.Repeat(".a", api.MaxSteps), chain(api.MaxSteps-1, num())), sorted(strings.Repeat(".a", api.MaxSteps-1), chain(api.MaxSteps, num())), sorted(strings.Repeat(".a", api.MaxSteps+1), chain(api.MaxSteps+1, num())),
		// A Ty too many at the end.
		{{}, {}}, append(num(), num()...), append(num(), a...), append(inner, named("c", num())...), append(tup(), num()...), append(list(num()), num()...), append(sorted(".", num()), num()...), append(scal(8, a), a...),
		// A Ty too few at the end.
		{{Kind: api.YArr, Many: 1}}, {{Kind: api.YDict, Many: 1}}, {{Kind: api.YEnts, Many: 1}}, {{Kind: api.YSort, Many: 1, S: "."}}, {{Kind: api.YGroup, Many: 1, S: ".a"}}, {{Kind: api.YTup, Many: 1}}, {{Kind: api.YTup, Many: 2}, {}}, {{Kind: api.YObj, Many: 1}}, {{Kind: api.YObj, Many: 2}, {Name: "a"}}, {{Kind: api.YScal, N: 8, Many: 1}}, {{Kind: api.YScal, N: 8, Many: 2}, a[0]}, {{Kind: api.YArr, Many: 1}, {Kind: api.YArr, Many: 1}}, {{Kind: api.YTup, Many: math.MaxInt}}, {{Kind: api.YScal, N: 8, Many: math.MaxInt}, a[0]},
		// So many that a sum of them goes round to as many as there are.
		{{Kind: api.YTup, Many: math.MaxInt}, {Kind: api.YTup, Many: math.MaxInt}, {Kind: api.YTup, Many: 4}}, {{Kind: api.YTup, Many: 1 << 62}, {Kind: api.YTup, Many: 1 << 62}, {Kind: api.YTup, Many: 1 << 62}, {Kind: api.YTup, Many: 1<<62 + 3}},
	}
	for _, n := range noNodes() {
		l = append(l, scal(31, than(api.Eq, n)), list(scal(31, a, than(api.Ge, n))))
	}
	for _, s := range noPaths() {
		l = append(l, sorted(s, num()), sorted(s, shut(named("a", num()))), grouped(s, tup(num())), grouped(s, list(shut(named("a", num())))))
	}
	return append(append(l, wrongFields()...), wrongMany()...)
}

// sorts are types with, as their first Ty, each that the table has.
func sorts() []api.Type {
	return []api.Type{anything(), num(), scal(8, than(api.Ge, node("0"))), shut(), open(), shut(named("a", num())), dict(num()), tup(), tup(num()), list(num()), entries(num()), sorted(".", num()), grouped(".", num())}
}

// wrongFields are types with something in a field of a Ty that has nothing there.
func wrongFields() []api.Type {
	var l []api.Type
	for _, t := range sorts() {
		put := func(change func(*api.Ty)) {
			u := slices.Clone(t)
			change(&u[0])
			l = append(l, u, list(u))
		}
		kind := t[0].Kind
		if kind != api.YSort && kind != api.YGroup {
			put(func(x *api.Ty) { x.S = "." })
			put(func(x *api.Ty) { x.S = "a" })
		}
		if kind != api.YScal && kind != api.YObj {
			put(func(x *api.Ty) { x.N = 1 })
			put(func(x *api.Ty) { x.N = -1 })
		}
		for _, c := range []api.Node{{Kind: api.False}, {Kind: -1}, {Many: 1}, {Name: "a"}, {S: "a"}, {Neg: true}, {E: 1}, node("1"), node(`""`)} {
			put(func(x *api.Ty) { x.C = c })
		}
	}
	spoilt := than(api.Ge, node("0"))
	spoilt[0].S = "."
	return append(l, scal(8, spoilt))
}

// wrongMany are types of which a Ty has a part more or less than it may, with as many behind it as it says, as long as there may be such.
func wrongMany() []api.Type {
	var l []api.Type
	for _, t := range append(sorts(), than(api.Ge, node("0"))) {
		kind := t[0].Kind
		for _, many := range []int{-1, 0, 1, 2, 3, math.MaxInt, math.MinInt} {
			if many == t[0].Many || many >= 0 && (kind == api.YObj || kind == api.YTup || kind == api.YScal) {
				continue
			}
			u := slices.Clone(t[:1])
			u[0].Many = many
			l = append(l, u, list(u))
			for range max(0, min(many, 9)) {
				u = append(u, num()...)
			}
			l = append(l, u, list(u))
			if kind == api.YAtom {
				l = append(l, scal(8, u))
			}
		}
	}
	return l
}

// TestRight is P12.1: which types are right, alone and in others.
func TestRight(t *testing.T) {
	l := append(rights(), sorts()...)
	for _, x := range texted() {
		l = append(l, x)
	}
	for _, x := range l {
		for _, y := range []api.Type{x, list(x), dict(x), entries(x), tup(x, num(), x), shut(named("", x), named("a", x)), sorted(".a", open(named("a", num()), named("b", x)))} {
			if !ty.Right(y) {
				t.Errorf("not right: %+v", y)
			}
		}
	}
}

// TestWrong is P12.1: which are not, and so are not good, alone and in others.
func TestWrong(t *testing.T) {
	for i, x := range wrong() {
		if ty.Right(x) || ty.Good(x) {
			t.Errorf("right: %d: %+v", i, x)
		}
		if y := list(x); ty.Right(y) || ty.Good(y) {
			t.Errorf("a list of it is right: %d: %+v", i, x)
		}
	}
}

// TestGood is P12.1: of right types those are good in which each YScal has a member.
func TestGood(t *testing.T) {
	zero, one, next := node("0"), node("1"), node(`"a\u0000"`)
	above, _ := atom.Beside(one, true)
	for _, x := range []struct {
		t    api.Type
		good bool
	}{
		{scal(1), true}, {scal(31), true}, {scal(8, than(api.Ge, zero)), true},
		{scal(8, than(api.Gt, one), than(api.Lt, one)), false}, {scal(8, than(api.Ge, one), than(api.Le, one)), true}, {scal(8, than(api.Ge, one), than(api.Le, one), than(api.Ne, one)), false},
		{scal(8, than(api.Gt, one), than(api.Lt, above)), false}, {scal(8, than(api.Gt, one), than(api.Le, above)), true}, {scal(24, than(api.Gt, one), than(api.Lt, above)), false},
		{scal(1, than(api.Ne, api.Node{})), false}, {scal(3, than(api.Ne, api.Node{})), true}, {scal(1, than(api.Eq, api.Node{})), true}, {scal(2, than(api.Eq, api.Node{})), false}, {scal(7, than(api.Gt, api.Node{Kind: api.True})), false},
		{scal(16, than(api.Lt, node(`""`))), false}, {scal(24, than(api.Lt, node(`""`))), true}, {scal(16, than(api.Gt, node(`"a"`)), than(api.Lt, next)), false}, {scal(16, than(api.Gt, node(`"a"`)), than(api.Le, next)), true}, {scal(8, than(api.Gt, node(`""`))), false},
		{scal(8, than(api.Eq, zero), than(api.Eq, one)), false}, {scal(8, than(api.Eq, one), than(api.Eq, one)), true},
	} {
		for _, y := range []api.Type{x.t, list(x.t), dict(x.t), entries(x.t), tup(num(), x.t), tup(x.t, num()), shut(named("a", x.t)), open(named("a", num()), named("b", x.t)), sorted(".", x.t), grouped(".a", shut(named("a", x.t))), sorted(".a", shut(named("a", num()), named("b", x.t))), tup(tup(), list(tup(str(), x.t)), anything())} {
			if !ty.Right(y) || ty.Good(y) != x.good {
				t.Errorf("%s: right: %v; good: %v", ty.Text(y), ty.Right(y), !x.good)
			}
		}
	}
}

// wordedRight tells whether a row is a right type, as the chapter's words have it.
func wordedRight(t api.Type) bool {
	k := treeOf(t)
	return k != nil && k.x.Kind != api.YAtom && k.x.Name == "" && k.right()
}

// right tells whether each Ty of a tree is one of the table.
func (k *tree) right() bool {
	for i, kid := range k.kids {
		inObj := k.x.Kind == api.YObj
		if (kid.x.Kind == api.YAtom) != (k.x.Kind == api.YScal) || !inObj && kid.x.Name != "" || inObj && !utf8.ValidString(kid.x.Name) || inObj && i > 0 && k.kids[i-1].x.Name >= kid.x.Name || !kid.right() {
			return false
		}
	}
	bare, one := k.x, len(k.kids) == 1
	bare.Kind, bare.Many, bare.Name = 0, 0, ""
	switch k.x.Kind {
	case api.YAny:
		return len(k.kids) == 0 && bare == api.Ty{}
	case api.YScal:
		return k.x.N >= 1 && k.x.N <= 31 && bare == api.Ty{N: k.x.N}
	case api.YAtom:
		return len(k.kids) == 0 && atom.Right(api.Atom{N: k.x.N, C: k.x.C}) && k.x.S == ""
	case api.YObj:
		return k.x.N>>1 == 0 && bare == api.Ty{N: k.x.N}
	case api.YDict, api.YArr, api.YEnts:
		return one && bare == api.Ty{}
	case api.YTup:
		return bare == api.Ty{}
	case api.YSort, api.YGroup:
		p, _, err := path.Read(k.x.S)
		if !one || err != api.OK || bare != (api.Ty{S: k.x.S}) {
			return false
		}
		to := k.kids[0].lead(p)
		return to != nil && to.x.Kind == api.YScal
	}
	return false
}

// good tells whether each YScal of a right tree has a member.
func (k *tree) good() bool {
	if k.x.Kind == api.YScal {
		var l []api.Atom
		for _, kid := range k.kids {
			l = append(l, api.Atom{N: kid.x.N, C: kid.x.C})
		}
		_, ok := atom.Least(k.x.N, l)
		return ok
	}
	return !slices.ContainsFunc(k.kids, func(kid *tree) bool { return !kid.good() })
}

// TestRightAny is P12.1: of types of chance, and of such of which a few things are changed, the same are right, and good, as the words say.
func TestRightAny(t *testing.T) {
	r := rand.New(rand.NewSource(1))
	var rights, goods, wrongs int
	for range 100000 {
		x := someType(r, 1+r.Intn(16))
		for range r.Intn(4) {
			x = changed(r, x)
		}
		right := wordedRight(x)
		good := right && treeOf(x).good()
		if ty.Right(x) != right || ty.Good(x) != good {
			t.Fatalf("%+v: right: %v, good: %v", x, !right, !good)
		}
		switch {
		case good:
			goods++
		case right:
			rights++
		default:
			wrongs++
		}
	}
	if goods < 20000 || rights < 2000 || wrongs < 20000 {
		t.Error("too few of one sort:", goods, rights, wrongs)
	}
}

// changed is a row with one thing otherwise.
func changed(r *rand.Rand, t api.Type) api.Type {
	t = slices.Clone(t)
	if len(t) == 0 {
		return t
	}
	at := r.Intn(len(t))
	texts := []string{"", "a", "b", "\xff", ".", ".a", ".b", ".a.b", ".[0]"}
	switch r.Intn(10) {
	case 0:
		t[at].Name = someOf(r, texts)
	case 1:
		t[at].S = someOf(r, texts)
	case 2:
		t[at].N = someOf(r, []int{-1, 0, 1, 2, 5, 6, 31, 32})
	case 3:
		t[at].Many += r.Intn(3) - 1
	case 4:
		t[at].Kind = r.Intn(12) - 1
	case 5:
		t[at].C = someOf(r, someOf(r, [][]api.Node{flats, noFlats}))
	case 6:
		t = slices.Insert(t, at, t[r.Intn(len(t))])
	case 7:
		t = slices.Delete(t, at, at+1)
	case 8:
		// The path of a list, if there is any.
		for at < len(t)-1 && t[at].S == "" {
			at++
		}
		if t[at].S != "" {
			t[at].S = someOf(r, texts)
		}
	default:
		other := r.Intn(len(t))
		t[at], t[other] = t[other], t[at]
	}
	return t
}
