package eval

import (
	"cmp"
	"slices"
	"strconv"

	"loupe/api"
	"loupe/num"
)

// tree is a value, or a part of one, in place of a row: its node, whose Many counts for nothing, and its parts. None is changed once it is made, so that one may stand in many others, and what is made of a large value is made without a copy of it.
type tree struct {
	node  api.Node
	parts []*tree
}

// grow is a row's value.
func grow(v api.Val) *tree {
	t, _ := grown(v)
	return t
}

// grown is the value that a row begins with, and the row behind it.
func grown(row api.Val) (*tree, api.Val) {
	if len(row) == 0 {
		return null(), nil
	}
	t, rest := &tree{node: row[0]}, row[1:]
	// A row that is no value may have fewer parts than it says.
	for i := 0; i < t.node.Many && len(rest) > 0; i++ {
		var part *tree
		part, rest = grown(rest)
		t.parts = append(t.parts, part)
	}
	return t, rest
}

// row is a value's row. What is still to be laid is kept in place of recursion, as what filters make may be deeper than all that they were given.
func (t *tree) row() api.Val {
	var v api.Val
	left := []*tree{t}
	for len(left) > 0 {
		last := len(left) - 1
		next := left[last]
		left = left[:last]
		n := next.node
		n.Many = len(next.parts)
		v = append(v, n)
		for _, part := range slices.Backward(next.parts) {
			left = append(left, part)
		}
	}
	return v
}

// named is a value as a part of that name; without one, as a value of its own.
func (t *tree) named(name string) *tree {
	if t.node.Name == name {
		return t
	}
	n := t.node
	n.Name = name
	return &tree{node: n, parts: t.parts}
}

// with is a value that has these parts instead.
func (t *tree) with(parts []*tree) *tree { return &tree{node: t.node, parts: parts} }

// flat is a value's node, as the row of a value that has no parts.
func (t *tree) flat() api.Val {
	n := t.node
	n.Many = 0
	return api.Val{n}
}

func (t *tree) is(kind int) bool { return t.node.Kind == kind }

func (t *tree) holdsParts() bool { return t.is(api.Arr) || t.is(api.Obj) }

func null() *tree { return &tree{} }

// number is that of a place.
func number(place int) *tree {
	n, _ := num.Make(false, strconv.Itoa(place), 0)
	return &tree{node: n}
}

func str(s string) *tree { return &tree{node: api.Node{Kind: api.Str, S: s}} }

func list(parts []*tree) *tree { return &tree{node: api.Node{Kind: api.Arr}, parts: parts} }

// object is that of these parts, whatever the order of their names; of one name the last one counts.
func object(parts []*tree) *tree {
	rising := slices.Clone(parts)
	slices.SortStableFunc(rising, byName)
	var l []*tree
	for i, part := range rising {
		if i+1 == len(rising) || byName(part, rising[i+1]) != 0 {
			l = append(l, part)
		}
	}
	return &tree{node: api.Node{Kind: api.Obj}, parts: l}
}

func byName(a, b *tree) int { return cmp.Compare(a.node.Name, b.node.Name) }
