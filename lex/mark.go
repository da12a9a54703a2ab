package lex

import "sync"

// Which marks begin with a byte: it alone, and it with `=` behind.
const (
	alone = 1 << iota
	paired
)

// begun tells which marks begin with each byte below 128; the others begin none. It is laid once, and read alone from then on.
var (
	laid  sync.Once
	begun [128]uint8
)

func lay() {
	const singles, pairs = ".|,:()[]{}<>?", "=!<>"
	for i := range len(singles) {
		begun[singles[i]] |= alone
	}
	for i := range len(pairs) {
		begun[pairs[i]] |= paired
	}
}

// mark is the longest mark that a text begins with; nothing, if it begins with none.
func mark(s string) string {
	laid.Do(lay)
	if s == "" || int(s[0]) >= len(begun) {
		return ""
	}
	switch is := begun[s[0]]; {
	case is&paired != 0 && len(s) > 1 && s[1] == '=':
		return s[:2]
	case is&alone != 0:
		return s[:1]
	}
	return ""
}
