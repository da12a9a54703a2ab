package lex

import (
	"slices"
	"strings"
	"testing"
)

// TestTable is P8.1: the table that is laid once tells of each byte whether a mark begins with it.
func TestTable(t *testing.T) {
	Lex("")
	for b, is := range begun {
		if is != strings.Contains(".|,:()[]{}<>?=!", string([]byte{byte(b)})) {
			t.Errorf("%q: %v", byte(b), is)
		}
	}
}

// TestBesideTable is P8.1: no answer hangs on the table, but for the room that is kept.
func TestBesideTable(t *testing.T) {
	texts := []string{"", ".", "=", "!", "<==", ".a|.[0]", `"=" != ."|"`, strings.Repeat("[", 200), strings.Repeat("a", 200), "map(select(.a >= 1.5))?", "a = 1", "$"}
	for b := range 256 {
		texts = append(texts, string([]byte{byte(b)}), string([]byte{byte(b), '='}))
	}
	Lex("")
	as := begun
	defer func() { begun = as }()
	for _, s := range texts {
		begun = as
		want, place, fault := Lex(s)
		for _, is := range []bool{false, true} {
			for b := range begun {
				begun[b] = is
			}
			if l, at, err := Lex(s); !slices.Equal(l, want) || at != place || err != fault {
				t.Errorf("%q: %+v, %d at %d, not %+v, %d at %d", s, l, err, at, want, fault, place)
			}
		}
	}
}
