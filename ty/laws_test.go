package ty_test

import (
	"math/rand"
	"regexp"
	"slices"
	"strings"
	"testing"

	"loupe/api"
	"loupe/path"
	"loupe/quote"
	"loupe/text"
	"loupe/ty"
)

// flats and noFlats are laid once, as they are asked for often.
var flats, noFlats = flat(), noNodes()

func someOf[T any](r *rand.Rand, l []T) T { return l[r.Intn(len(l))] }

func someNames() []string {
	return []string{"", "a", "b", "c", "_9", "9", "a b", "é", "any", `"`, "\n", ".", "?"}
}

// someType is a right type of chance, of no more Tys than there is room for, or a few more.
func someType(r *rand.Rand, room int) api.Type {
	if room <= 1 {
		return someBare(r)
	}
	switch r.Intn(10) {
	case 0:
		return list(someType(r, room-1))
	case 1:
		return dict(someType(r, room-1))
	case 2:
		return entries(someType(r, room-1))
	case 3:
		return tup(someParts(r, room-1)...)
	case 4, 5:
		return someObject(r, room-1)
	case 6:
		return someScal(r, 3)
	}
	return someByPath(r, room-1)
}

func someParts(r *rand.Rand, room int) []api.Type {
	var l []api.Type
	for range r.Intn(4) {
		l = append(l, someType(r, room/2))
	}
	return l
}

func someObject(r *rand.Rand, room int) api.Type {
	l := someParts(r, room)
	names := someNames()
	r.Shuffle(len(names), func(i, k int) { names[i], names[k] = names[k], names[i] })
	names = names[:len(l)]
	slices.Sort(names)
	for i := range l {
		l[i] = named(names[i], l[i])
	}
	return of(api.Ty{Kind: api.YObj, N: r.Intn(2)}, l...)
}

// someByPath is a list by a path, if of a few types of chance one has a YScal to which a path leads.
func someByPath(r *rand.Rand, room int) api.Type {
	part := someType(r, room)
	for range 4 {
		if l := leaves(treeOf(part)); len(l) > 0 {
			return by(someOf(r, []int{api.YSort, api.YGroup}), path.Text(someOf(r, l)), part)
		}
		part = someObject(r, min(room, 6))
	}
	return part
}

// someBare is a right type of one Ty.
func someBare(r *rand.Rand) api.Type {
	return someOf(r, []api.Type{anything(), num(), str(), scal(1 + r.Intn(31)), scal(1 + r.Intn(31)), shut(), open(), tup()})
}

// someScal is a mask with atoms of chance, of which the first one is likely to let something in.
func someScal(r *rand.Rand, most int) api.Type {
	var l []api.Type
	for range r.Intn(most + 1) {
		l = append(l, than(r.Intn(6), someOf(r, flats)))
	}
	return scal(1+r.Intn(31), l...)
}

// leaves are the paths of fields that lead from a tree to a YScal.
func leaves(k *tree) []api.Path {
	if k.x.Kind == api.YScal {
		return []api.Path{nil}
	}
	var l []api.Path
	for _, kid := range k.kids {
		if k.x.Kind != api.YObj {
			break
		}
		for _, p := range leaves(kid) {
			l = append(l, append(api.Path{{Name: kid.x.Name}}, p...))
		}
	}
	return l
}

// text is a tree's text, part by part, as the chapter's words have it.
func (k *tree) text() string {
	var l []string
	for _, kid := range k.kids {
		s := kid.text()
		if k.x.Kind == api.YObj {
			s = wordedName(kid.x.Name) + ": " + s
		}
		l = append(l, s)
	}
	all := strings.Join(l, ", ")
	switch k.x.Kind {
	case api.YAny:
		return "any"
	case api.YScal:
		var names []string
		for kind, name := range strings.Fields("null false true num str") {
			if k.x.N&(1<<kind) > 0 {
				names = append(names, name)
			}
		}
		s := strings.Join(names, "|")
		if len(l) > 0 {
			s += "(" + all + ")"
		}
		return s
	case api.YAtom:
		return strings.Fields("== != < <= > >=")[k.x.N] + " " + text.Compact(api.Val{k.x.C})
	case api.YObj:
		if k.x.N == 1 {
			all = strings.Join(append(l, "?"), ", ")
		}
		return "{" + all + "}"
	case api.YDict:
		return "{?: " + all + "}"
	case api.YArr:
		return "[" + all + "]"
	case api.YSort, api.YGroup:
		all = k.x.S + ", " + all
	}
	return map[int]string{api.YTup: "tup", api.YEnts: "entries", api.YSort: "sorted", api.YGroup: "grouped"}[k.x.Kind] + "(" + all + ")"
}

var word = regexp.MustCompile(`^[a-zA-Z_][a-zA-Z_0-9]*$`)

func wordedName(name string) string {
	if word.MatchString(name) {
		return name
	}
	return quote.Quote(name)
}

// TestTextAny is P12.1: types of chance have the texts that the words say, and no two have one text.
func TestTextAny(t *testing.T) {
	r := rand.New(rand.NewSource(2))
	seen := map[string]api.Type{}
	for range 20000 {
		x := someType(r, 1+r.Intn(30))
		s := ty.Text(x)
		if want := treeOf(x).text(); s != want {
			t.Fatalf("%s, not %s", s, want)
		}
		had, is := seen[s]
		if is && !ty.Same(had, x) {
			t.Fatalf("%s: %+v and %+v", s, had, x)
		}
		seen[s] = x
	}
	if len(seen) < 10000 {
		t.Error("too few:", len(seen))
	}
}

// TestMadeAny is P12.2: a type of chance is made of its Ty, names and parts; of a YScal the atoms are these.
func TestMadeAny(t *testing.T) {
	r := rand.New(rand.NewSource(3))
	count := map[int]int{}
	for range 20000 {
		x := someType(r, 1+r.Intn(30))
		k := treeOf(x)
		var names []string
		var l []api.Type
		for _, kid := range k.kids {
			row := kid.row()
			row[0].Name = ""
			l = append(l, row)
			if x[0].Kind == api.YObj {
				names = append(names, kid.x.Name)
			}
		}
		parts := ty.Parts(x)
		if x[0].Kind == api.YScal {
			alike(t, ty.Text(x), parts, nil)
			parts = l
		}
		alike(t, ty.Text(x), parts, l)
		head := x[0]
		head.Many = r.Intn(5) - 1
		if made := ty.Made(head, names, parts); !slices.Equal(made, x) {
			t.Fatalf("%s: %+v", ty.Text(x), made)
		}
		count[x[0].Kind]++
	}
	for kind := api.YAny; kind < api.YAtom; kind++ {
		if count[kind] < 40 {
			t.Error("too few:", kind, count[kind])
		}
	}
}

// TestPartsAny is P12.3: parts of a good type are good, all the way down; parts are right, whether the type is good or not, and what is no good part has none within that is good together.
func TestPartsAny(t *testing.T) {
	r := rand.New(rand.NewSource(4))
	good, bad := 0, 0
	var within func(x api.Type)
	within = func(x api.Type) {
		all := true
		for _, part := range ty.Parts(x) {
			if !ty.Right(part) || part[0].Name != "" {
				t.Fatalf("%s: %+v", ty.Text(x), part)
			}
			all = all && ty.Good(part)
			within(part)
		}
		if ty.Good(x) && !all || !ty.Good(x) && all && x[0].Kind != api.YScal {
			t.Fatalf("%s: good: %v; its parts: %v", ty.Text(x), ty.Good(x), all)
		}
		if ty.Good(x) {
			good++
		} else {
			bad++
		}
	}
	for range 5000 {
		within(someType(r, 1+r.Intn(30)))
	}
	if good < 10000 || bad < 2000 {
		t.Error("too few:", good, bad)
	}
}

// TestAtomsAny is P12.1: of a YScal of chance the atoms are those of which it is laid.
func TestAtomsAny(t *testing.T) {
	r := rand.New(rand.NewSource(5))
	for range 5000 {
		x := someScal(r, 6)
		l := ty.Atoms(x)
		var rows []api.Type
		for _, a := range l {
			rows = append(rows, than(a.N, a.C))
		}
		if !slices.Equal(scal(x[0].N, rows...), x) || len(l) != x[0].Many {
			t.Fatalf("%s: %+v", ty.Text(x), l)
		}
	}
}

// TestLeafAny is P12.1: in types of chance a path leads where it does step by step, and all that a path leads to is found.
func TestLeafAny(t *testing.T) {
	r := rand.New(rand.NewSource(6))
	found, none := 0, 0
	for range 15000 {
		x := someObject(r, 2+r.Intn(30))
		k := treeOf(x)
		l := leaves(k)
		for range 3 {
			p := api.Path{}
			for range r.Intn(4) {
				p = append(p, api.Step{Name: someOf(r, someNames()[:5])})
			}
			if len(p) > 0 && r.Intn(4) == 0 {
				p[r.Intn(len(p))] = api.Step{Part: true, N: r.Intn(2)}
			}
			l = append(l, p)
		}
		for _, p := range l {
			want, leads := 0, false
			if to := k.lead(p); to != nil && to.x.Kind == api.YScal {
				want, leads = to.at, true
			}
			at, ok := ty.Leaf(x, p)
			if at != want || ok != leads {
				t.Fatalf("%s, %s: %d, %v, not %d", ty.Text(x), path.Text(p), at, ok, want)
			}
			if ok {
				found++
			} else {
				none++
			}
		}
	}
	if found < 5000 || none < 10000 {
		t.Error("too few:", found, none)
	}
}
