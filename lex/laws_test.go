package lex_test

import (
	"math/rand"
	"regexp"
	"slices"
	"strings"
	"testing"

	"loupe/api"
	"loupe/lex"
	"loupe/num"
	"loupe/quote"
)

// forms are what the chapter says may stand, in an order in which the first one that stands there is told.
type forms struct{ blank, field, mark, word, numeral *regexp.Regexp }

func chapter() forms {
	return forms{
		blank:   regexp.MustCompile(`^[\x20\x09\x0a\x0d]+`),
		field:   regexp.MustCompile(`^\.([a-zA-Z_][a-zA-Z0-9_]*|")`),
		mark:    regexp.MustCompile(`^(==|!=|<=|>=|[.|,:()\[\]{}<>?])`),
		word:    regexp.MustCompile(`^[a-zA-Z_][a-zA-Z0-9_]*`),
		numeral: regexp.MustCompile(`^[-0-9][-+.eE0-9]*`),
	}
}

// formed is what the chapter says of a text, by its forms.
func (f forms) formed(s string) ([]api.Tok, int, api.Errno) {
	var l []api.Tok
	for from := 0; ; {
		from += len(f.blank.FindString(s[from:]))
		if from == len(s) {
			return append(l, at(from, end())), 0, api.OK
		}
		token, long, err := f.one(s[from:])
		if err != api.OK {
			return nil, from + long, err
		}
		l = append(l, at(from, token))
		from += long
	}
}

// one is the token that a text begins with, and how long that is.
func (f forms) one(s string) (api.Tok, int, api.Errno) {
	if m := f.field.FindStringSubmatch(s); m != nil && m[1] == `"` {
		name, long, err := quote.Unquote(s[1:])
		return field(name), 1 + long, err
	} else if m != nil {
		return field(m[1]), len(m[0]), api.OK
	}
	if m := f.mark.FindString(s); m != "" {
		return mark(m), len(m), api.OK
	}
	if w := f.word.FindString(s); w != "" {
		return word(w), len(w), api.OK
	}
	if s[0] == '"' {
		told, long, err := quote.Unquote(s)
		return str(told), long, err
	}
	n := f.numeral.FindString(s)
	if n == "" {
		return end(), 0, api.ErrForm
	}
	told, place, err := num.Read(n)
	if err != api.OK {
		return end(), place, err
	}
	return node(told), len(n), api.OK
}

// readAsFormed holds Lex of a text against its form, and, if that is well, its promises.
func (f forms) readAsFormed(t *testing.T, s string) bool {
	t.Helper()
	want, place, fault := f.formed(s)
	l, told, err := lex.Lex(s)
	if told != place || err != fault || !slices.Equal(l, want) {
		t.Fatalf("%q: %+v, %d at %d, not %+v, %d at %d", s, l, err, told, want, fault, place)
	}
	if err == api.OK {
		back(t, l)
		rises(t, s, l)
	}
	return err == api.OK
}

// bare are tokens without their places.
func bare(l []api.Tok) []api.Tok {
	l = slices.Clone(l)
	for i := range l {
		l[i].At = 0
	}
	return l
}

// back is P8.2 of some tokens, the last one of which is the end: their text is read as these.
func back(t *testing.T, l []api.Tok) {
	t.Helper()
	s := lex.Text(l)
	again, place, err := lex.Lex(s)
	if err != api.OK || place != 0 || !slices.Equal(bare(again), bare(l)) {
		t.Fatalf("%q: %+v, %d at %d, not %+v", s, again, err, place, l)
	}
	if more := lex.Text(again); more != s || lex.Text(l[:len(l)-1]) != s {
		t.Fatalf("%q, and then %q", s, more)
	}
}

// rises is P8.3 of the tokens of a text: what stands from one's place to the next one's is that token's, with blanks behind it alone; and so is all from there on.
func rises(t *testing.T, s string, l []api.Tok) {
	t.Helper()
	if ahead := s[:l[0].At]; strings.Trim(ahead, " \t\n\r") != "" {
		t.Fatalf("%q: %q ahead of all", s, ahead)
	}
	for i, token := range l[:len(l)-1] {
		if token.At < 0 || l[i+1].At <= token.At {
			t.Fatalf("%q: places do not rise: %+v", s, l)
		}
		own := s[token.At:l[i+1].At]
		if one, _, err := lex.Lex(own); err != api.OK || !slices.Equal(bare(one), []api.Tok{at(0, token), end()}) || one[0].At != 0 || !begunBy(own, token) {
			t.Fatalf("%q: %q is %+v, not %+v", s, own, one, token)
		}
		rest, _, err := lex.Lex(s[token.At:])
		if err != api.OK || !slices.Equal(shifted(rest, token.At), l[i:]) {
			t.Fatalf("%q: from %d on %+v", s, token.At, rest)
		}
	}
	if last := l[len(l)-1]; last != at(len(s), end()) {
		t.Fatalf("%q: it ends with %+v", s, last)
	}
}

// begunBy tells whether a text begins as that of such a token must.
func begunBy(s string, token api.Tok) bool {
	switch token.Kind {
	case api.TMark, api.TWord:
		return strings.HasPrefix(s, token.S)
	case api.TField:
		return strings.HasPrefix(s, "."+token.S) || strings.HasPrefix(s, `."`)
	case api.TText:
		return s[0] == '"'
	}
	return token.Kind == api.TNum && (s[0] == '-' || '0' <= s[0] && s[0] <= '9')
}

// TestForms is P8.1, P8.2 and P8.3: all texts of few bytes are of the tokens that the chapter's forms say.
func TestForms(t *testing.T) {
	f := chapter()
	for _, x := range []struct {
		bytes string
		most  int
	}{{". \"a1-=<", 6}, {".\"\\ue0_|\n", 5}, {"019-+.eE ", 5}, {"<>=!.[]{}():,|?a ", 4}, {".aZ_\t\r \x00\xff\xc3\xa9$", 4}} {
		read, refused := 0, 0
		var longer func(s string)
		longer = func(s string) {
			if f.readAsFormed(t, s) {
				read++
			} else {
				refused++
			}
			if len(s) == x.most {
				return
			}
			for i := range len(x.bytes) {
				longer(s + x.bytes[i:i+1])
			}
		}
		longer("")
		if read < 1000 || refused < 1000 {
			t.Errorf("%q: %d read, %d refused", x.bytes, read, refused)
		}
	}
}

// TestPieces is P8.1, P8.2 and P8.3: texts of pieces of chance, one right behind another, are of the tokens that the chapter's forms say.
func TestPieces(t *testing.T) {
	pieces := append(marks(), " ", " ", "\t", "\n", "\r", "\v", "=", "!", "-", "+", "$", "é", "\xff", ".a", `."x y"`, `."`, `"`, `"\n"`, `"|"`, `""`, `"é"`, `\`, "a", "b_1", "null", "e", "E5", "_", "0", "1", "15", "-7", "1.50", "2e3", "01", "1.", "1e1000", "-1e-1000", ".5", "select", "(", "[", ".")
	f := chapter()
	r := rand.New(rand.NewSource(1))
	read, refused := 0, 0
	for range 200000 {
		var b strings.Builder
		for range r.Intn(9) {
			b.WriteString(pieces[r.Intn(len(pieces))])
		}
		if f.readAsFormed(t, b.String()) {
			read++
		} else {
			refused++
		}
	}
	if read < 20000 || refused < 20000 {
		t.Error(read, "read,", refused, "refused")
	}
}

// TestAnyBytes is P8.1: texts of all bytes, by chance, are of the tokens that the chapter's forms say.
func TestAnyBytes(t *testing.T) {
	f := chapter()
	r := rand.New(rand.NewSource(2))
	for range 50000 {
		b := make([]byte, r.Intn(12))
		for i := range b {
			b[i] = byte(r.Intn(256))
			if r.Intn(3) > 0 {
				b[i] = `."a1 -<=|\e`[r.Intn(11)]
			}
		}
		f.readAsFormed(t, string(b))
	}
}

// a writing is a token, and a way in which it may stand in a text.
type writing struct {
	s     string
	token api.Tok
}

// writings are tokens, of each kind, and ways to write them.
func writings(t *testing.T) []writing {
	var l []writing
	for _, m := range marks() {
		l = append(l, writing{m, mark(m)})
	}
	for _, w := range []string{"a", "b1", "_", "Zz_9", "null", "e", "E3", "map_values"} {
		l = append(l, writing{w, word(w)}, writing{"." + w, field(w)}, writing{`."` + w + `"`, field(w)})
	}
	for s, told := range map[string]string{`""`: "", `"a"`: "a", `" \n "`: " \n ", `"\u00e9\/"`: "é/", `"é"`: "é", `".|=\""`: `.|="`, `"\ud83d\ude00"`: "😀", `"0"`: "0", `"\\"`: `\`} {
		l = append(l, writing{s, str(told)}, writing{"." + s, field(told)})
	}
	for _, s := range []string{"0", "-0", "1", "-7", "10", "1.50", "-0.25", "2e3", "2E-03", "1e+20", "1e-1000", "1e999", "123456789.987654321"} {
		l = append(l, writing{s, readNumber(t, s)})
	}
	// The order of a map counts for nothing.
	slices.SortFunc(l, func(a, b writing) int { return strings.Compare(a.s, b.s) })
	return l
}

// needBlank tells whether two that stand one right behind the other might be read as others.
func needBlank(a, b writing) bool {
	next := b.s[0]
	named := next == '_' || 'a' <= next && next <= 'z' || 'A' <= next && next <= 'Z'
	figure := '0' <= next && next <= '9'
	switch a.token.Kind {
	case api.TMark:
		return a.s == "." && (named || next == '"') || (a.s == "<" || a.s == ">") && next == '='
	case api.TWord:
		return named || figure
	case api.TField:
		return !strings.HasSuffix(a.s, `"`) && (named || figure)
	case api.TNum:
		return named || figure || strings.IndexByte("+-.", next) >= 0
	}
	return false
}

// TestPlaces is P8.1 and P8.3: tokens, however they are written, with blanks of chance between them, or none where there need be none, are read as these, at the places where they were laid.
func TestPlaces(t *testing.T) {
	all := writings(t)
	blanks := []string{"", "", "", " ", "\t", "\n", "\r", " \r\n\t "}
	r := rand.New(rand.NewSource(3))
	for range 50000 {
		var b strings.Builder
		var want []api.Tok
		b.WriteString(blanks[r.Intn(len(blanks))])
		last := writing{}
		for range r.Intn(12) {
			next := all[r.Intn(len(all))]
			blank := blanks[r.Intn(len(blanks))]
			if blank == "" && needBlank(last, next) {
				blank = " "
			}
			b.WriteString(blank)
			want = append(want, at(b.Len(), next.token))
			b.WriteString(next.s)
			last = next
		}
		b.WriteString(blanks[r.Intn(len(blanks))])
		tells(t, b.String(), want...)
	}
}

// TestBack is P8.2: tokens of all kinds, with what names, strings and numbers there may be, are read again from their text as they were, but for their places.
func TestBack(t *testing.T) {
	all := writings(t)
	r := rand.New(rand.NewSource(4))
	for range 30000 {
		var l []api.Tok
		for range r.Intn(12) {
			l = append(l, at(r.Intn(100)-50, someToken(r, all)))
		}
		back(t, append(l, end()))
	}
}

// someToken is a token of chance.
func someToken(r *rand.Rand, all []writing) api.Tok {
	switch r.Intn(4) {
	case 0:
		return str(someString(r))
	case 1:
		return field(someString(r))
	case 2:
		figures := make([]byte, 1+r.Intn(30))
		for i := range figures {
			figures[i] = byte('0' + r.Intn(10))
		}
		n, err := num.Make(r.Intn(2) == 0, string(figures), r.Intn(80)-50)
		if err != api.OK {
			return number(false, "", 0)
		}
		return node(n)
	}
	return all[r.Intn(len(all))].token
}

// someString is a valid string of chance.
func someString(r *rand.Rand) string {
	runes := []rune{'a', 'Z', '_', '0', ' ', '.', '"', '\\', '/', '|', '=', '\n', 0, 31, 127, 0xe9, 0xfffd, 0x1d11e}
	s := make([]rune, r.Intn(6))
	for i := range s {
		s[i] = runes[r.Intn(len(runes))]
		if r.Intn(2) == 0 {
			s[i] = runes[r.Intn(4)]
		}
	}
	return string(s)
}
