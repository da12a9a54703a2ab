package atom

import (
	"iter"

	"loupe/api"
)

// Least: the first member of the candidates.
func Least(mask int, l []api.Atom) (api.Node, bool) {
	few := gistOf(l)
	for n := range candidates(l) {
		if isLet(mask, n) && few.holds(n) {
			return n, true
		}
	}
	return api.Node{}, false
}

// candidates are, of all nodes, enough to find a member among them, if there is one. One is made only when those ahead of it were none.
func candidates(l []api.Atom) iter.Seq[api.Node] {
	return func(yield func(api.Node) bool) {
		for kind := api.Null; kind <= api.Num; kind++ {
			if !yield(api.Node{Kind: kind}) {
				return
			}
		}
		for _, a := range l {
			if a.C.Kind == api.Num && !yieldNumbers(a.C, yield) {
				return
			}
		}
		if !yield(api.Node{Kind: api.Str}) {
			return
		}
		for _, a := range l {
			if a.C.Kind == api.Str && !yieldTexts(a.C, yield) {
				return
			}
		}
	}
}

// yieldNumbers tells a number and those beside it; no, if it was told to stop.
func yieldNumbers(n api.Node, yield func(api.Node) bool) bool {
	if !yield(n) {
		return false
	}
	if x, ok := Beside(n, true); ok && !yield(x) {
		return false
	}
	x, ok := Beside(n, false)
	return !ok || yield(x)
}

// yieldTexts tells a string and the least one that is greater; no, if it was told to stop.
func yieldTexts(n api.Node, yield func(api.Node) bool) bool {
	return yield(n) && yield(api.Node{Kind: api.Str, S: n.S + "\x00"})
}
