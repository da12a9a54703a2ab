package text_test

import (
	"bytes"
	"encoding/json"
	"math/rand"
	"slices"
	"strings"
	"testing"
	"unicode/utf8"

	"loupe/api"
	"loupe/num"
	"loupe/text"
	"loupe/val"
)

// someStrings are strings and names, with and without blanks.
func someStrings() []string {
	return []string{"", "a", "b", "aa", "é", "😀", "\"", "\\", "/", "\n", "\t", "\x00", "\x1f", "\x7f", "[", "]", "{}", ":", ",", "\u2028", "\ufffd", "\ufeff", "null", "1", `\u0041`, " ", "a b", "  ", "\u00a0"}
}

// blankless is how many of them have no blank.
const blankless = 25

// someScalars are values without parts, strings left out.
func someScalars() []api.Val {
	long := strings.Repeat("123456789", 12)[:100]
	return []api.Val{null, no, yes, number(false, "", 0), number(false, "1", 0), number(true, "1", 0), number(false, "12", 18), number(false, "12", 19), number(true, "5", -20), number(true, "5", -21), number(false, long, 0), number(false, long, 900), number(true, long, -1000), number(false, "1", 999), number(false, "1", -1000), number(false, "123", -1)}
}

// maker makes values of chance, the same in each run.
type maker struct {
	*rand.Rand
	strings []string
}

func (m maker) str() string { return m.strings[m.Intn(len(m.strings))] }

func (m maker) value(room int) api.Val {
	kind := m.Intn(5)
	if room == 0 || kind > 2 {
		if kind%2 == 0 {
			return str(m.str())
		}
		l := someScalars()
		return l[m.Intn(len(l))]
	}
	parts := make([]api.Val, m.Intn(5))
	var names []string
	for i := range parts {
		parts[i] = m.value(room - 1)
		for name := m.str(); len(names) == i; name = m.str() {
			if !slices.Contains(names, name) {
				names = append(names, name)
			}
		}
	}
	if kind == 0 {
		return val.List(parts)
	}
	v, _ := val.Object(names, parts)
	return v
}

// values are values of chance that are not too deep, some of them as deep as may be.
func values(m maker, many int) []api.Val {
	l := append(someScalars(), list(), api.Val{{Kind: api.Obj}})
	for _, s := range m.strings {
		named, _ := val.Object([]string{s}, []api.Val{str(s)})
		l = append(l, str(s), named)
	}
	for len(l) < many {
		v := m.value(6)
		for wrap := m.Intn(200); wrap > 0 && len(l)%50 == 0 && val.Depth(v) < api.MaxDepth; wrap-- {
			if m.Intn(2) == 0 {
				v = list(null, v)
			} else {
				v, _ = val.Object([]string{m.str()}, []api.Val{v})
			}
		}
		l = append(l, v)
	}
	return l
}

// TestBack is P4.2: both texts of a value that is not too deep are parsed as it, with blanks around them too.
func TestBack(t *testing.T) {
	for _, v := range values(maker{rand.New(rand.NewSource(1)), someStrings()}, 5000) {
		compact, indented := text.Compact(v), text.Indent(v)
		tells(t, compact, v)
		tells(t, indented, v)
		tells(t, " "+compact+"\n", v)
		tells(t, "\r\n"+indented+"\t", v)
		if val.Depth(v) < api.MaxDepth {
			tells(t, "["+compact+","+indented+"]", list(v, v))
		}
		if !utf8.ValidString(compact) || !utf8.ValidString(indented) {
			t.Errorf("no UTF-8: %q", indented)
		}
	}
}

// TestBlanks is P4.3: without its blanks an indented text is the compact one, where no string has blanks.
func TestBlanks(t *testing.T) {
	none := strings.NewReplacer(" ", "", "\t", "", "\n", "", "\r", "")
	deepest := 0
	for _, v := range values(maker{rand.New(rand.NewSource(2)), someStrings()[:blankless]}, 5000) {
		compact, indented := text.Compact(v), text.Indent(v)
		if bare := none.Replace(indented); bare != compact || strings.ContainsAny(compact, " \t\n\r") {
			t.Errorf("%s, not %s", bare, compact)
		}
		deepest = max(deepest, val.Depth(v))
	}
	if deepest != api.MaxDepth {
		t.Error("no value is deep:", deepest)
	}
}

// TestLines is P4.1: an indented text is what the library makes of the compact one.
func TestLines(t *testing.T) {
	for _, v := range values(maker{rand.New(rand.NewSource(3)), someStrings()}, 5000) {
		var b bytes.Buffer
		compact := text.Compact(v)
		if err := json.Indent(&b, []byte(compact), "", "  "); err != nil || b.String() != text.Indent(v) {
			t.Errorf("%s: %v\n%s\nnot\n%s", compact, err, text.Indent(v), b.String())
		}
	}
}

// read is the value that the library reads, which must be one.
func read(t *testing.T, s string) api.Val {
	t.Helper()
	d := json.NewDecoder(strings.NewReader(s))
	d.UseNumber()
	var x any
	if err := d.Decode(&x); err != nil {
		t.Fatalf("%q: %v", s, err)
	}
	return made(t, x)
}

func made(t *testing.T, x any) api.Val {
	t.Helper()
	var names []string
	var parts []api.Val
	switch x := x.(type) {
	case nil:
		return null
	case bool:
		if x {
			return yes
		}
		return no
	case string:
		return str(x)
	case json.Number:
		n, _, err := num.Read(x.String())
		if err != api.OK {
			t.Fatal(x, err)
		}
		return api.Val{n}
	case []any:
		for _, part := range x {
			parts = append(parts, made(t, part))
		}
		return val.List(parts)
	case map[string]any:
		for name, part := range x {
			names, parts = append(names, name), append(parts, made(t, part))
		}
	}
	v, err := val.Object(names, parts)
	if err != api.OK {
		t.Fatal(x, err)
	}
	return v
}

// States of a walk along the tokens of a text: what must come next.
const (
	value = iota
	valueOrEnd
	name
	nameOrEnd
	colon
	commaOrEnd
	end
)

// walk tells where the tokens of a text can't go on, by a state and a stack of the marks that end what is open: -1, if they are a whole text.
func walk(l []string) int {
	state, at := value, 0
	var open []byte
	behind := func() int {
		if len(open) == 0 {
			return end
		}
		return commaOrEnd
	}
	for _, token := range l {
		fits := true
		switch c := token[0]; {
		case c == ' ' || c == '\n':
		case c == '"' && (state == name || state == nameOrEnd):
			state = colon
		case (state == value || state == valueOrEnd) && c == '[':
			open, state = append(open, ']'), valueOrEnd
		case (state == value || state == valueOrEnd) && c == '{':
			open, state = append(open, '}'), nameOrEnd
		case (state == value || state == valueOrEnd) && (c == '"' || c == 't' || c == '1'):
			state = behind()
		case state == colon && c == ':':
			state = value
		case state == commaOrEnd && c == ',':
			state = value
			if open[len(open)-1] == '}' {
				state = name
			}
		case (state == commaOrEnd || state == valueOrEnd || state == nameOrEnd) && c == open[len(open)-1]:
			open = open[:len(open)-1]
			state = behind()
		default:
			fits = false
		}
		if !fits {
			return at
		}
		at += len(token)
	}
	if state == end {
		return -1
	}
	return at
}

// TestAll is P4.1: all texts of up to 6 tokens are what the walk says, and worth what the library says.
func TestAll(t *testing.T) {
	whole := 0
	var all func(l []string, more int)
	all = func(l []string, more int) {
		s := strings.Join(l, "")
		at := walk(l)
		if json.Valid([]byte(s)) != (at < 0) {
			t.Errorf("%q: the walk says %d", s, at)
		}
		if at < 0 {
			tells(t, s, read(t, s))
			whole++
		} else {
			refuses(t, s, api.ErrForm, at)
		}
		if more == 0 {
			return
		}
		for _, token := range []string{"[", "]", "{", "}", ",", ":", `"a"`, "true", " "} {
			all(append(l, token), more-1)
		}
	}
	all(nil, 6)
	if whole < 200 {
		t.Error("few whole texts:", whole)
	}
}

// TestChance is P4.1 and P4.2: of longer texts, most of them nearly whole, which are told and which are not is as the walk and the library say; what is parsed is right, and not too deep.
func TestChance(t *testing.T) {
	r := rand.New(rand.NewSource(4))
	tokens := []string{"[", "]", "{", "}", ",", ":", `"a"`, `"b"`, `"\u0061"`, "true", "1.5e0", "10", " ", "\n"}
	whole := 0
	for range 20000 {
		var l []string
		long := 0
		for size := 1 + r.Intn(40); len(l) < size; {
			token := tokens[r.Intn(len(tokens))]
			// Tokens that do not fit are seldom kept, and numbers do not stand side by side.
			at := walk(append(l, token))
			if at >= 0 && at <= long && r.Intn(60) > 0 || token[0] == '1' && len(l) > 0 && l[len(l)-1][0] == '1' {
				continue
			}
			l = append(l, token)
			long += len(token)
			if at < 0 && r.Intn(8) == 0 {
				break
			}
		}
		s := strings.Join(l, "")
		if at := walk(l); at >= 0 {
			refuses(t, s, api.ErrForm, at)
			continue
		}
		whole++
		v := read(t, s)
		tells(t, s, v)
		tells(t, text.Compact(v), v)
	}
	if whole < 1000 || whole > 19000 {
		t.Error("too few of one sort:", whole)
	}
}

// TestAnyBytes is P4.2, and P4.1 by R1: no text makes a call fail; what is parsed is right, and not too deep, and an error has a place in the text.
func TestAnyBytes(t *testing.T) {
	r := rand.New(rand.NewSource(5))
	pieces := []string{"[", "]", "{", "}", ",", ":", `"`, `"a"`, `"":`, `\`, `\u00`, "null", "true", "fals", "e", "1", "0", "-", ".", "1e1000", "1e-3", " ", "\n", "\t", "\r", "\v", "\x00", "\xff", "é", "\u00a0", "[[[[[[[[[[[[[[[[", `{"a":{"a":{"a":{"a":`, "]]]]]]]]]]]]]]]]", "}}}}"}
	count := map[api.Errno]int{}
	for i := range 200000 {
		var b strings.Builder
		if i%8 == 0 {
			b.WriteString(strings.Repeat("[", r.Intn(140)))
		}
		for range r.Intn(30) {
			b.WriteString(pieces[r.Intn(1+r.Intn(len(pieces)))])
		}
		s := b.String()
		v, at, err := text.Parse(s)
		count[err]++
		if err == api.OK {
			if at != 0 || !val.Right(v) || val.Depth(v) > api.MaxDepth || !slices.Equal(v, read(t, s)) {
				t.Fatalf("%q: %s %d", s, short(v), at)
			}
			continue
		}
		if v != nil || at < 0 || at > len(s) {
			t.Fatalf("%q: %s %d %d", s, short(v), at, err)
		}
		begins := map[api.Errno]string{api.ErrLarge: "-0123456789", api.ErrDepth: "[{"}
		if err != api.ErrForm && (at == len(s) || !strings.Contains(begins[err], s[at:at+1])) {
			t.Fatalf("%q: %d %d", s, at, err)
		}
		// What comes behind the place has no part in it.
		if at < len(s) && err == api.ErrForm {
			if _, again, still := text.Parse(s[:at+1]); again != at || still != err {
				t.Fatalf("%q: %d %d, not %d", s[:at+1], again, still, at)
			}
		}
	}
	for _, err := range []api.Errno{api.OK, api.ErrForm, api.ErrLarge, api.ErrDepth} {
		if count[err] < 20 {
			t.Error("too few of one sort:", count)
		}
	}
}
