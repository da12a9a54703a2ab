package lex

import (
	"sync"

	"loupe/api"
)

// asked is of how many bytes, a text's first ones, the table is asked.
const asked = 64

// begun tells of each byte whether a mark begins with it. It is laid once, and only read from then on. How much room is kept for tokens hangs on it; which tokens there are hangs on mark alone.
var (
	laid  sync.Once
	begun [256]bool
)

func lay() {
	for b := range len(begun) {
		// Whichever marks begin with a byte, one of them is it alone, or it with `=` behind.
		begun[b] = mark(string([]byte{byte(b), '='})) != ""
	}
}

// roomFor is no tokens, with room for as many marks as may stand among a text's first bytes, and for its end.
func roomFor(s string, begins [256]bool) []api.Tok {
	many := 1
	for i := range min(len(s), asked) {
		if begins[s[i]] {
			many++
		}
	}
	return make([]api.Tok, 0, many)
}

// mark is the longest mark that a text begins with; nothing, if it begins with none.
func mark(s string) string {
	if len(s) >= 2 && isMark(s[:2]) {
		return s[:2]
	}
	if len(s) >= 1 && isMark(s[:1]) {
		return s[:1]
	}
	return ""
}

func isMark(s string) bool {
	switch s {
	case ".", "|", ",", ":", "(", ")", "[", "]", "{", "}", "==", "!=", "<=", ">=", "<", ">", "?":
		return true
	}
	return false
}
