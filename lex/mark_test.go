package lex_test

import (
	"strings"
	"testing"

	"loupe/api"
	"loupe/lex"
)

// theMarks are all marks, written out in the order in which the chapter has them.
const theMarks = " . | , : ( ) [ ] { } == != <= >= < > ? "

func isTheMark(s string) bool {
	return strings.Trim(s, " ") != "" && strings.Contains(theMarks, " "+s+" ")
}

// TestMarkOfByte is P8.1: of each byte alone, the marks are known, and no others.
func TestMarkOfByte(t *testing.T) {
	known := 0
	for b := range 256 {
		s := string([]byte{byte(b)})
		if isTheMark(s) {
			known++
			tells(t, s, mark(s))
			tells(t, s+" "+s, mark(s), at(2, mark(s)))
			continue
		}
		noMark(t, s)
	}
	if known != singles {
		t.Error(known)
	}
}

// noMark holds that a text has no mark among its tokens, if it has any.
func noMark(t *testing.T, s string) {
	t.Helper()
	l, _, _ := lex.Lex(s)
	for _, token := range l {
		if token.Kind == api.TMark {
			t.Errorf("%q: %+v", s, l)
		}
	}
}

// TestMarkOfPair is P8.1: of each byte with `=` behind it, the marks are known, and no others; the longest one first. As `=` alone is no token, others are none from there on, but those that no token begins with at all.
func TestMarkOfPair(t *testing.T) {
	known := 0
	for b := range 256 {
		one := string([]byte{byte(b)})
		s := one + "="
		switch {
		case isTheMark(s):
			known++
			tells(t, s, mark(s))
			tells(t, s+s, mark(s), at(2, mark(s)))
			refuses(t, s+"=", api.ErrForm, 2)
		case isTheMark(one):
			refuses(t, s, api.ErrForm, 1)
			tells(t, one+"==", mark(one), at(1, mark("==")))
		case one == `"`:
			// All that stands behind it is the string's.
			refuses(t, s, api.ErrForm, 2)
			tells(t, s+one, str("="))
		case one == "-", strings.Contains(" \t\n\r", one), one == "_", '0' <= b && b <= '9', 'a' <= b && b <= 'z', 'A' <= b && b <= 'Z':
			refuses(t, s, api.ErrForm, 1)
			noMark(t, one)
		default:
			refuses(t, s, api.ErrForm, 0)
		}
	}
	if known != len(marks())-singles {
		t.Error(known)
	}
}
