package lex

import (
	"strings"

	"loupe/api"
	"loupe/num"
	"loupe/quote"
)

// What words and numbers are made of.
const (
	letters = "abcdefghijklmnopqrstuvwxyzABCDEFGHIJKLMNOPQRSTUVWXYZ_"
	figures = "0123456789"
	numeral = figures + "+-.eE"
)

// token is the one that a text begins with, without its place, and how many bytes it has. Else it tells an error, and where in the text that is.
func token(s string) (api.Tok, int, api.Errno) {
	if name, is := strings.CutPrefix(s, "."); is && (word(name) != "" || begins(name, `"`)) {
		t, long, err := token(name)
		return api.Tok{Kind: api.TField, S: t.S}, len(".") + long, err
	}
	if m := mark(s); m != "" {
		return api.Tok{Kind: api.TMark, S: m}, len(m), api.OK
	}
	if w := word(s); w != "" {
		return api.Tok{Kind: api.TWord, S: w}, len(w), api.OK
	}
	if begins(s, `"`) {
		told, long, err := quote.Unquote(s)
		return api.Tok{Kind: api.TText, S: told}, long, err
	}
	if begins(s, "-"+figures) {
		return number(s)
	}
	return api.Tok{}, 0, api.ErrForm
}

// number is the token that a text begins with, which begins as a number does: all bytes of a number's belong to it, in whatever order.
func number(s string) (api.Tok, int, api.Errno) {
	long := leading(s, numeral)
	n, at, err := num.Read(s[:long])
	if err != api.OK {
		return api.Tok{}, at, err
	}
	return api.Tok{Kind: api.TNum, C: n}, long, api.OK
}

// word is the one that a text begins with; nothing, if it begins with none.
func word(s string) string {
	if !begins(s, letters) {
		return ""
	}
	return s[:leading(s, letters+figures)]
}

// leading is how many bytes a text begins with that are among some.
func leading(s, among string) int { return len(s) - len(strings.TrimLeft(s, among)) }

// begins tells whether the first byte of a text is among some.
func begins(s, among string) bool { return s != "" && strings.IndexByte(among, s[0]) >= 0 }

// written is a token as it is written; the end is nothing.
func written(t api.Tok) string {
	switch t.Kind {
	case api.TMark, api.TWord:
		return t.S
	case api.TField:
		return "." + writtenName(t.S)
	case api.TText:
		return quote.Quote(t.S)
	case api.TNum:
		return num.Print(t.C)
	}
	return ""
}

func writtenName(name string) string {
	if name != "" && word(name) == name {
		return name
	}
	return quote.Quote(name)
}
