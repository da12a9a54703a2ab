package lex_test

import (
	"testing"

	"loupe/api"
	"loupe/num"
)

// Tokens without their places, laid by hand, without the calls that are tested.
func mark(s string) api.Tok   { return api.Tok{Kind: api.TMark, S: s} }
func word(s string) api.Tok   { return api.Tok{Kind: api.TWord, S: s} }
func field(s string) api.Tok  { return api.Tok{Kind: api.TField, S: s} }
func str(s string) api.Tok    { return api.Tok{Kind: api.TText, S: s} }
func end() api.Tok            { return api.Tok{Kind: api.TEnd} }
func node(n api.Node) api.Tok { return api.Tok{Kind: api.TNum, C: n} }

// number is the token of a right number.
func number(neg bool, figures string, e int) api.Tok {
	return node(api.Node{Kind: api.Num, Neg: neg, S: figures, E: e})
}

// whole is the token of a whole number above nought, the last figure of which is not 0.
func whole(figures string) api.Tok { return number(false, figures, 0) }

// at is a token that stands at a place.
func at(place int, t api.Tok) api.Tok {
	t.At = place
	return t
}

// marks are all marks, those of one byte first.
func marks() []string {
	return []string{".", "|", ",", ":", "(", ")", "[", "]", "{", "}", "<", ">", "?", "==", "!=", "<=", ">="}
}

// singles is how many marks are of one byte.
const singles = 13

// readNumber is the token of a number that is written well.
func readNumber(t *testing.T, s string) api.Tok {
	t.Helper()
	n, _, err := num.Read(s)
	if err != api.OK {
		t.Fatalf("%s: %d", s, err)
	}
	return node(n)
}
