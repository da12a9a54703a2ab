package ty_test

import (
	"slices"
	"testing"

	"loupe/api"
	"loupe/path"
	"loupe/text"
)

// of is a Ty with its parts behind it, laid by hand, without the calls that are tested.
func of(x api.Ty, parts ...api.Type) api.Type {
	x.Many = len(parts)
	return append(api.Type{x}, slices.Concat(parts...)...)
}

// is is a type that has nothing beside its parts.
func is(kind int, parts ...api.Type) api.Type { return of(api.Ty{Kind: kind}, parts...) }

// by is a sorted or a grouped list.
func by(kind int, s string, part api.Type) api.Type { return of(api.Ty{Kind: kind, S: s}, part) }

// named is a type as a field's of that name.
func named(name string, t api.Type) api.Type {
	t = slices.Clone(t)
	t[0].Name = name
	return t
}

// shut is an object of these fields alone; open is one of these and any others.
func shut(fields ...api.Type) api.Type { return of(api.Ty{Kind: api.YObj}, fields...) }
func open(fields ...api.Type) api.Type { return of(api.Ty{Kind: api.YObj, N: 1}, fields...) }

func list(part api.Type) api.Type              { return is(api.YArr, part) }
func tup(parts ...api.Type) api.Type           { return is(api.YTup, parts...) }
func dict(part api.Type) api.Type              { return is(api.YDict, part) }
func entries(part api.Type) api.Type           { return is(api.YEnts, part) }
func sorted(s string, part api.Type) api.Type  { return by(api.YSort, s, part) }
func grouped(s string, part api.Type) api.Type { return by(api.YGroup, s, part) }

// scal is a mask with atoms behind it.
func scal(mask int, l ...api.Type) api.Type {
	return of(api.Ty{Kind: api.YScal, N: mask}, l...)
}

// than is an atom, as a row.
func than(how int, c api.Node) api.Type { return api.Type{{Kind: api.YAtom, N: how, C: c}} }

// anything, num and str are types of any value, of numbers and of strings.
func anything() api.Type { return is(api.YAny) }
func num() api.Type      { return scal(8) }
func str() api.Type      { return scal(16) }

// node is the value that is written, which has no parts.
func node(s string) api.Node {
	v, _, err := text.Parse(s)
	if err != api.OK || len(v) != 1 {
		panic(s)
	}
	return v[0]
}

// steps is the path of which a text is.
func steps(t testing.TB, s string) api.Path {
	t.Helper()
	p, _, err := path.Read(s)
	if err != api.OK {
		t.Fatal(s)
	}
	return p
}

// tree is a type as the chapter's words have it: a Ty, where it stands in the row, and its parts.
type tree struct {
	x    api.Ty
	at   int
	kids []*tree
}

// treeFrom is the tree that begins at a place of a row, and the place behind it; none, if there are fewer parts than a Ty says.
func treeFrom(t api.Type, at int) (*tree, int) {
	if at >= len(t) || t[at].Many < 0 {
		return nil, at
	}
	k, next := &tree{x: t[at], at: at}, at+1
	for range t[at].Many {
		kid, behind := treeFrom(t, next)
		if kid == nil {
			return nil, at
		}
		k.kids, next = append(k.kids, kid), behind
	}
	return k, next
}

// treeOf is the tree that all of a row is.
func treeOf(t api.Type) *tree {
	k, end := treeFrom(t, 0)
	if end != len(t) {
		return nil
	}
	return k
}

// row is the row of a tree.
func (k *tree) row() api.Type {
	t := api.Type{k.x}
	for _, kid := range k.kids {
		t = append(t, kid.row()...)
	}
	return t
}

// lead is where a path leads from a tree; none, if it leads nowhere.
func (k *tree) lead(p api.Path) *tree {
	if len(p) == 0 {
		return k
	}
	if k.x.Kind != api.YObj || p[0].Part {
		return nil
	}
	for _, kid := range k.kids {
		if kid.x.Name == p[0].Name {
			return kid.lead(p[1:])
		}
	}
	return nil
}
