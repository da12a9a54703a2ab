package num

import (
	"strings"

	"loupe/api"
)

// longestPower is how many figures a power that is written has at most, noughts ahead not counted.
const longestPower = 6

// written is a number as it is written: its side, the figures ahead of its point and behind it, and those of its power, with the power's side.
type written struct {
	neg         bool
	whole, part string
	down        bool
	power       string
}

// Read: a text's.
func Read(s string) (api.Node, int, api.Errno) {
	w, at, ok := scan(s)
	if !ok {
		return api.Node{}, at, api.ErrForm
	}
	power := strings.TrimLeft(w.power, "0")
	if len(power) > longestPower {
		return api.Node{}, 0, api.ErrLarge
	}
	e := worth(power)
	if w.down {
		e = -e
	}
	n, err := Make(w.neg, w.whole+w.part, e-len(w.part))
	return n, 0, err
}

// scan takes a text apart; if it is not of the form, at is where it can't go on.
func scan(s string) (w written, at int, ok bool) {
	mark := func(c byte) bool {
		stands := at < len(s) && s[at] == c
		if stands {
			at++
		}
		return stands
	}
	figures := func() string {
		from := at
		for at < len(s) && isFigure(s[at]) {
			at++
		}
		return s[from:at]
	}
	w.neg = mark('-')
	// A nought that leads stands alone, so no more figures are taken behind it; it adds none to the number.
	if !mark('0') {
		if w.whole = figures(); w.whole == "" {
			return written{}, at, false
		}
	}
	if mark('.') {
		if w.part = figures(); w.part == "" {
			return written{}, at, false
		}
	}
	if mark('e') || mark('E') {
		w.down = !mark('+') && mark('-')
		if w.power = figures(); w.power == "" {
			return written{}, at, false
		}
	}
	return w, at, at == len(s)
}

// worth is the number of some figures, few enough to be one.
func worth(figures string) int {
	n := 0
	for i := 0; i < len(figures); i++ {
		n = 10*n + int(figures[i]-'0')
	}
	return n
}
