package term

import (
	"math"
	"unicode/utf8"

	"loupe/api"
	"loupe/path"
	"loupe/val"
)

// extra is a thing that a term has beside its parts: it lays that into a bare term, and tells whether it is right.
type extra func(t api.Term, bare *api.Term) bool

// shape is a row of the chapter's table: how many parts a term has, from least to most, and what else.
type shape struct {
	least, most int
	beside      []extra
}

// rightTerm tells whether a term is one of the table, but for what hangs on the term that it is a part of.
func rightTerm(t api.Term) bool {
	row, is := shapeOf(t.Op)
	if !is || t.Many < row.least || t.Many > row.most {
		return false
	}
	bare := api.Term{Op: t.Op, Many: t.Many, Name: t.Name}
	for _, has := range row.beside {
		if !has(t, &bare) {
			return false
		}
	}
	// What has not been laid may not be there.
	return t == bare
}

func shapeOf(op int) (shape, bool) {
	switch op {
	case api.OId, api.OToE, api.OFromE, api.ORev:
		return shape{}, true
	case api.OField:
		return shape{beside: []extra{says(utf8.ValidString)}}, true
	case api.OPart, api.OTail:
		return shape{beside: []extra{counts(api.MaxPart)}}, true
	case api.OPipe, api.PAnd, api.POr:
		return shape{least: 2, most: 2}, true
	case api.OMap, api.OVals, api.OWhere, api.PNot:
		return shape{least: 1, most: 1}, true
	case api.OObj, api.OTup:
		return shape{most: math.MaxInt}, true
	case api.OGroup, api.OSort, api.ODel:
		return shape{beside: []extra{says(isPath)}}, true
	case api.PCmp:
		return shape{beside: []extra{says(isPath), counts(api.Ge), compares(isFlat)}}, true
	}
	return shape{}, false
}

func says(right func(string) bool) extra {
	return func(t api.Term, bare *api.Term) bool {
		bare.S = t.S
		return right(t.S)
	}
}

func counts(most int) extra {
	return func(t api.Term, bare *api.Term) bool {
		bare.N = t.N
		return 0 <= t.N && t.N <= most
	}
}

func compares(right func(api.Node) bool) extra {
	return func(t api.Term, bare *api.Term) bool {
		bare.C = t.C
		return right(t.C)
	}
}

func isPath(s string) bool {
	_, _, err := path.Read(s)
	return err == api.OK
}

// isFlat tells whether a node is a value that can have no parts: an empty list can.
func isFlat(n api.Node) bool {
	v := api.Val{n}
	return val.Right(v) && val.Depth(v) == 0
}
