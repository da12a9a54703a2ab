package quote

import "strconv"

// Of two halves that are one rune together, the first one is from high to below low, the second one from low to below above.
const (
	high  = 0xd800
	low   = 0xdc00
	above = 0xe000
)

// pairs is the least rune that is written as two halves; each is how many of them begin with one first half.
const (
	pairs = 0x10000
	each  = 0x400
)

// unit is how many bytes the escape of a number has.
const unit = len(`\u0000`)

// letters tells the runes that have short escapes, with the letter of each.
func letters() map[rune]rune {
	return map[rune]rune{'"': '"', '\\': '\\', '/': '/', '\b': 'b', '\f': 'f', '\n': 'n', '\r': 'r', '\t': 't'}
}

// byLetter tells the letters of the short escapes, with the rune of each.
func byLetter() map[rune]rune {
	short := map[rune]rune{}
	for r, letter := range letters() {
		short[letter] = r
	}
	return short
}

// long is the escape by number of a rune that is below 256.
func long(r rune) string {
	const figures = "0123456789abcdef"
	return `\u00` + string(figures[r>>4]) + string(figures[r&15])
}

// escape is the rune of the escape, or of the pair of two, that s begins with, and how many bytes are read for it: 0, if there is none.
func escape(short map[rune]rune, s string) (rune, int) {
	if len(s) < 2 {
		return 0, 0
	}
	if r, is := short[rune(s[1])]; is {
		return r, 2
	}
	first, is := number(s)
	switch {
	case !is:
		return 0, 0
	case first < high || first >= above:
		return first, unit
	}
	second, is := number(s[unit:])
	if !is || first >= low || second < low || second >= above {
		return 0, 0
	}
	return pairs + (first-high)*each + second - low, 2 * unit
}

// number is that of the escape that s begins with, if it is one of a number.
func number(s string) (rune, bool) {
	if len(s) < unit || s[:2] != `\u` {
		return 0, false
	}
	n, err := strconv.ParseUint(s[2:unit], 16, 16)
	if err != nil {
		return 0, false
	}
	return rune(n), true
}
