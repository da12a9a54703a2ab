package order

// sorted is what rises of a list, by compare; what is the same stays in its order.
func sorted[T any](l []T, compare func(x, y T) int) []T {
	if len(l) < 2 {
		return l
	}
	half := len(l) / 2
	return merge(sorted(l[:half], compare), sorted(l[half:], compare), compare)
}

// merge lays two lists that rise together, so that all of it rises.
func merge[T any](ahead, behind []T, compare func(x, y T) int) []T {
	l := make([]T, 0, len(ahead)+len(behind))
	for len(ahead) > 0 && len(behind) > 0 {
		// Of what is the same, what stood ahead stays ahead.
		if compare(ahead[0], behind[0]) <= 0 {
			l, ahead = append(l, ahead[0]), ahead[1:]
		} else {
			l, behind = append(l, behind[0]), behind[1:]
		}
	}
	return append(append(l, ahead...), behind...)
}
