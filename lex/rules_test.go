package lex_test

import (
	"math"
	"slices"
	"strings"
	"sync"
	"testing"

	"loupe/api"
	"loupe/lex"
)

// TestUntouched is P8.1, by R4: nothing that is handed in changes, nor what lies behind its end; and what is answered is memory of its own.
func TestUntouched(t *testing.T) {
	const s = `.a | ."b c" == -1.50 "x" <= null [`
	l, _, _ := lex.Lex(s)
	again, _, _ := lex.Lex(s)
	text := lex.Text(again)
	for i := range l[:cap(l)] {
		l[:cap(l)][i] = api.Tok{Kind: 77, S: "spoilt"}
	}
	if more, _, _ := lex.Lex(s); !slices.Equal(more, again) || lex.Text(again) != text {
		t.Errorf("an answer has changed: %+v", again)
	}
	roomy := append(make([]api.Tok, 0, len(again)+4), again...)
	for i := range roomy[len(roomy):cap(roomy)] {
		roomy[len(roomy):cap(roomy)][i] = word("mark")
	}
	lex.Text(roomy)
	if !slices.Equal(roomy, again) {
		t.Errorf("what was handed in has changed: %+v", roomy)
	}
	for _, token := range roomy[len(roomy):cap(roomy)] {
		if token != word("mark") {
			t.Errorf("what lies behind its end has changed: %+v", token)
		}
	}
}

// TestWrongTokens is P8.1, by R1: Text ends without a panic, whatever it is given.
func TestWrongTokens(t *testing.T) {
	var l []api.Tok
	for _, kind := range []int{math.MinInt, -1, 0, 1, 2, 3, 4, 5, 6, 7, math.MaxInt} {
		for _, s := range []string{"", "a", "a b", "\xff", "=", "\x00", `"`} {
			for _, n := range []api.Node{{}, {Kind: 9, Many: -1}, {Kind: api.Num, S: "x0", E: math.MaxInt}, {Kind: api.Num, S: "\xff", Neg: true, E: math.MinInt}, {Kind: api.Num, S: strings.Repeat("9", 200), E: -19}, {Kind: api.Obj, Many: math.MaxInt, Name: "\xff"}} {
				l = append(l, api.Tok{Kind: kind, S: s, C: n, At: math.MinInt})
			}
		}
	}
	for i := range l {
		lex.Text(l[i : i+1])
		lex.Text(l[i:])
	}
}

// TestSame is P8.1, by R5: the same text is told the same, also where many ask at once, and whoever asks first.
func TestSame(t *testing.T) {
	texts := append(marks(), ".a|.[0]", "= <", "01", strings.Join(marks(), " "))
	answers := make([]string, 64)
	var all sync.WaitGroup
	for i := range answers {
		all.Go(func() {
			for k := range texts {
				l, place, err := lex.Lex(texts[(k+i)%len(texts)])
				again, second, fault := lex.Lex(texts[(k+i)%len(texts)])
				if !slices.Equal(l, again) || place != second || err != fault {
					answers[i] += "not the same: " + texts[(k+i)%len(texts)]
				}
			}
			l, _, _ := lex.Lex(texts[len(texts)-1])
			answers[i] += lex.Text(l)
		})
	}
	all.Wait()
	for _, s := range answers {
		if s != strings.Join(marks(), " ") {
			t.Error(s)
		}
	}
}

// TestMany is P8.1 of many tokens: a text is gone through once, however many there are, and whatever stands behind them.
func TestMany(t *testing.T) {
	const many = 200000
	for s, want := range map[string]api.Tok{".": mark("."), "a": word("a"), ".a": field("a"), `"a"`: str("a"), `."a"`: field("a"), "1": whole("1"), "<=": mark("<="), `"\u0061"`: str("a")} {
		l, place, err := lex.Lex(strings.Repeat(s+" ", many))
		if err != api.OK || place != 0 || len(l) != many+1 {
			t.Fatalf("%s: %d, %d at %d", s, len(l), err, place)
		}
		for i, token := range l[:many] {
			if token != at(i*(len(s)+1), want) {
				t.Fatalf("%s: %+v", s, token)
			}
		}
		refuses(t, strings.Repeat(s+" ", many)+"$", api.ErrForm, many*(len(s)+1))
		refuses(t, strings.Repeat(s+" ", many)+"1e1000", api.ErrLarge, many*(len(s)+1))
	}
}

// TestLong is P8.1 of long tokens and long rows of blanks.
func TestLong(t *testing.T) {
	const long = 1000000
	letters := strings.Repeat("a", long)
	tells(t, letters, word(letters))
	tells(t, "."+letters, field(letters))
	tells(t, `"`+letters+`"`, str(letters))
	tells(t, `."`+letters+`"`, field(letters))
	tells(t, "1."+strings.Repeat("0", long), whole("1"))
	tells(t, strings.Repeat(" ", long)+"a"+strings.Repeat("\n", long), at(long, word("a")))
	refuses(t, strings.Repeat("1", long), api.ErrLarge, 0)
	refuses(t, strings.Repeat("1", long)+".", api.ErrForm, long+1)
	refuses(t, `"`+letters, api.ErrForm, long+1)
	refuses(t, "."+letters+"$", api.ErrForm, long+1)
	refuses(t, strings.Repeat(" ", long)+"\xff", api.ErrForm, long)
}
