package atom

import (
	"slices"

	"loupe/api"
)

// gist is what some atoms say together, in few of them, so that of many atoms' candidates each is asked of few: as all nodes without parts stand in one order, one atom of each way tells all that those of that way do, but for Ne, of which the nodes are kept, rising.
type gist struct {
	most []api.Atom
	not  []api.Node
}

func gistOf(l []api.Atom) gist {
	var g gist
	for _, a := range l {
		switch a.N {
		case api.Eq:
			g.take(api.Atom{N: api.Le, C: a.C})
			g.take(api.Atom{N: api.Ge, C: a.C})
		case api.Ne:
			g.not = append(g.not, a.C)
		case api.Lt, api.Le, api.Gt, api.Ge:
			g.take(a)
		default:
			// What is no way to compare holds of nothing, whichever it is.
			g.take(api.Atom{N: -1})
		}
	}
	slices.SortFunc(g.not, compare)
	return g
}

// take keeps of each way the atom that says most: where one holds of the node of another of its way, that one says all that it does.
func (g *gist) take(a api.Atom) {
	for i, b := range g.most {
		if a.N == b.N {
			if Holds(b, a.C) {
				g.most[i] = a
			}
			return
		}
	}
	g.most = append(g.most, a)
}

// holds tells whether all atoms hold of a node.
func (g *gist) holds(n api.Node) bool {
	_, ruledOut := slices.BinarySearchFunc(g.not, n, compare)
	return !ruledOut && allHold(g.most, n)
}
