package atom

import (
	"strings"

	"loupe/api"
	"loupe/num"
)

// Beside: the number above, or below.
func Beside(n api.Node, above bool) (api.Node, bool) {
	if !num.Right(n) {
		return api.Node{}, false
	}
	x, err := beside(n, above)
	return x, err == api.OK
}

// beside is ErrLarge, if what would come next is no right number.
func beside(n api.Node, above bool) (api.Node, api.Errno) {
	switch {
	case n.S == "":
		return num.Make(!above, "1", -api.MaxE)
	case n.Neg == above:
		return nearer(n)
	}
	return farther(n)
}

// farther is the number beside one that is not nought, on the side away from nought.
func farther(n api.Node) (api.Node, api.Errno) {
	e := finest(len(n.S) + n.E)
	// With a nought ahead, not all figures are nines.
	s := "0" + n.S + strings.Repeat("0", n.E-e)
	head := strings.TrimRight(s, "9")
	return num.Make(n.Neg, moved(head, 1), e+len(s)-len(head))
}

// nearer is the number beside one that is not nought, on the side of nought.
func nearer(n api.Node) (api.Node, api.Errno) {
	places := len(n.S) + n.E
	if n.S == "1" {
		// What is nearer than a power of ten has a place less, so its figures reach farther behind.
		places--
	}
	e := finest(places)
	return num.Make(n.Neg, moved(n.S, -1)+strings.Repeat("9", n.E-e), e)
}

// finest is the power that the last figure of a number of so many places ahead of the point may have at least.
func finest(places int) int { return max(places-api.MaxDigits, -api.MaxE) }

// moved is figures with the last one so much greater; it neither rises beyond 9 nor falls below 0.
func moved(figures string, by int) string {
	last := len(figures) - 1
	return figures[:last] + string(rune(int(figures[last])+by))
}
