package term_test

import (
	"math/rand"
	"regexp"
	"slices"
	"strconv"
	"strings"
	"testing"

	"loupe/api"
	"loupe/quote"
	"loupe/term"
	"loupe/text"
)

func someOf[T any](r *rand.Rand, l []T) T { return l[r.Intn(len(l))] }

func someNames() []string {
	return []string{"", "a", "b", "_9", "9", "a b", "é", "map", `"`, "\n", "."}
}

func somePaths() []string { return []string{".", ".a", ".a.b", ".[0]", `."a b"[7]`, `.""`} }

// someFilter is a right filter of chance, of no more terms than there is room for, or a few more.
func someFilter(r *rand.Rand, room int) api.Filter {
	kind := r.Intn(9)
	if room <= 1 {
		return someBare(r)
	}
	switch kind {
	case 0:
		return does(api.OMap, someFilter(r, room-1))
	case 1:
		return does(api.OVals, someFilter(r, room-1))
	case 2:
		return where(someCondition(r, room-1))
	case 3, 4:
		return does(api.OTup, someParts(r, room-1)...)
	case 5, 6:
		l := someParts(r, room-1)
		names := someNames()
		r.Shuffle(len(names), func(i, k int) { names[i], names[k] = names[k], names[i] })
		for i := range l {
			l[i] = named(names[i], l[i])
		}
		return does(api.OObj, l...)
	}
	first := someFilter(r, room/2)
	for first[0].Op == api.OPipe {
		first = someFilter(r, room/2)
	}
	return does(api.OPipe, first, someFilter(r, room/2))
}

func someParts(r *rand.Rand, room int) []api.Filter {
	var l []api.Filter
	for range r.Intn(4) {
		l = append(l, someFilter(r, room/2))
	}
	return l
}

// someBare is a right filter of one term.
func someBare(r *rand.Rand) api.Filter {
	return someOf(r, []api.Filter{
		id(), does(api.OToE), does(api.OFromE), does(api.ORev), field(someOf(r, someNames())), counts(api.OPart, r.Intn(3)), counts(api.OPart, r.Intn(api.MaxPart+1)), counts(api.OTail, r.Intn(3)),
		says(api.OGroup, someOf(r, somePaths())), says(api.OSort, someOf(r, somePaths())), says(api.ODel, someOf(r, somePaths())), does(api.OObj), does(api.OTup),
	})
}

func someCondition(r *rand.Rand, room int) api.Filter {
	kind := r.Intn(4)
	switch {
	case room <= 1 || kind == 0:
		return compare(someOf(r, somePaths()), r.Intn(6), someOf(r, flat()))
	case kind == 1:
		return does(api.PNot, someCondition(r, room-1))
	case kind == 2:
		return does(api.PAnd, someCondition(r, room/2), someCondition(r, room/2))
	}
	return does(api.POr, someCondition(r, room/2), someCondition(r, room/2))
}

// split are the parts of a row, found by how long each right one is.
func split(f api.Filter) []api.Filter {
	var l []api.Filter
	for at := 1; at < len(f); {
		long := rightFrom(f[at:], f[at].Op >= api.PCmp)
		l = append(l, f[at:at+long])
		at += long
	}
	return l
}

// worded is a filter's text, part by part, as the chapter's words have it.
func worded(f api.Filter) string {
	var l []string
	for _, part := range split(f) {
		s := worded(part)
		junction := part[0].Op == api.PAnd || part[0].Op == api.POr
		if part[0].Op == api.OPipe && (f[0].Op == api.OObj || f[0].Op == api.OTup) || junction && (f[0].Op == api.PAnd || f[0].Op == api.POr) {
			s = "(" + s + ")"
		}
		if f[0].Op == api.OObj {
			s = wordedName(part[0].Name) + ": " + s
		}
		l = append(l, s)
	}
	switch t := f[0]; t.Op {
	case api.OField:
		return "." + wordedName(t.S)
	case api.OPart:
		return ".[" + strconv.Itoa(t.N) + "]"
	case api.OTail:
		return ".[" + strconv.Itoa(t.N) + ":]"
	case api.OPipe:
		return strings.Join(l, " | ")
	case api.OObj:
		return "{" + strings.Join(l, ", ") + "}"
	case api.OTup:
		return "[" + strings.Join(l, ", ") + "]"
	case api.PCmp:
		return t.S + " " + strings.Fields("== != < <= > >=")[t.N] + " " + text.Compact(api.Val{t.C})
	case api.PAnd:
		return strings.Join(l, " and ")
	case api.POr:
		return strings.Join(l, " or ")
	case api.PNot:
		return "(" + l[0] + " | not)"
	case api.OMap, api.OVals, api.OWhere:
		return map[int]string{api.OMap: "map", api.OVals: "map_values", api.OWhere: "select"}[t.Op] + "(" + l[0] + ")"
	case api.OGroup, api.OSort, api.ODel:
		return map[int]string{api.OGroup: "group_by", api.OSort: "sort_by", api.ODel: "del"}[t.Op] + "(" + t.S + ")"
	}
	return map[int]string{api.OId: ".", api.OToE: "to_entries", api.OFromE: "from_entries", api.ORev: "reverse"}[f[0].Op]
}

func wordedName(name string) string {
	if regexp.MustCompile(`^[a-zA-Z_][a-zA-Z_0-9]*$`).MatchString(name) {
		return name
	}
	return quote.Quote(name)
}

// TestTextAny is P7.1: filters of chance have the texts that the words say, and no two have one text.
func TestTextAny(t *testing.T) {
	r := rand.New(rand.NewSource(2))
	seen := map[string]api.Filter{}
	for range 20000 {
		f := someFilter(r, 1+r.Intn(30))
		s := term.Text(f)
		if want := worded(f); s != want {
			t.Fatalf("%s, not %s", s, want)
		}
		had, is := seen[s]
		if is && !slices.Equal(had, f) {
			t.Fatalf("%s: %+v and %+v", s, had, f)
		}
		seen[s] = f
	}
	if len(seen) < 10000 {
		t.Error("too few:", len(seen))
	}
}

// TestPartsAny is P7.3: parts are right, but for conditions, which are right within a filter; they are what is behind the first term, one behind the other, but for their names; and together they are as long as the filter, less one.
func TestPartsAny(t *testing.T) {
	r := rand.New(rand.NewSource(3))
	filters, conditions := 0, 0
	var within func(f api.Filter)
	within = func(f api.Filter) {
		rest := f[1:]
		parts := term.Parts(f)
		if len(parts) != f[0].Many {
			t.Fatalf("%+v: %d parts", f, len(parts))
		}
		for _, part := range parts {
			if len(part) == 0 || len(part) > len(rest) || part[0].Name != "" || !slices.Equal(named(rest[0].Name, part), rest[:len(part)]) {
				t.Fatalf("%+v: part %+v", f, part)
			}
			if part[0].Op >= api.PCmp {
				conditions++
				if term.Right(part) || !term.Right(where(part)) {
					t.Fatalf("%+v: condition %+v", f, part)
				}
			} else {
				filters++
				if !term.Right(part) {
					t.Fatalf("%+v: part %+v", f, part)
				}
			}
			rest = rest[len(part):]
			within(part)
		}
		if len(rest) != 0 {
			t.Fatalf("%+v: not all of it: %+v", f, rest)
		}
	}
	for range 10000 {
		within(someFilter(r, 1+r.Intn(30)))
	}
	if filters < 10000 || conditions < 10000 {
		t.Error("too few:", filters, conditions)
	}
}

// piped are the filters of which a pipe is made, one behind the other.
func piped(f api.Filter) []api.Filter {
	var l []api.Filter
	for f[0].Op == api.OPipe {
		parts := split(f)
		l, f = append(l, parts[0]), parts[1]
	}
	return append(l, f)
}

// TestPipeAny is P7.2: what Pipe makes is right, and hangs on no brackets: it is all that both are made of, in order.
func TestPipeAny(t *testing.T) {
	r := rand.New(rand.NewSource(4))
	nested := 0
	for range 20000 {
		f, g, h := someFilter(r, 1+r.Intn(16)), someFilter(r, 1+r.Intn(16)), someFilter(r, 1+r.Intn(16))
		fg := term.Pipe(f, g)
		left, right := term.Pipe(fg, h), term.Pipe(f, term.Pipe(g, h))
		if !term.Right(fg) || !term.Right(left) || !slices.Equal(left, right) {
			t.Fatalf("%s, %s, %s: %s, %s", term.Text(f), term.Text(g), term.Text(h), term.Text(left), term.Text(right))
		}
		if len(fg) != len(f)+len(g)+1 || term.Text(fg) != term.Text(f)+" | "+term.Text(g) {
			t.Fatalf("%s, %s: %s", term.Text(f), term.Text(g), term.Text(fg))
		}
		all := slices.Concat(piped(f), piped(g), piped(h))
		if !slices.EqualFunc(piped(left), all, slices.Equal[api.Filter]) {
			t.Fatalf("%s, %s, %s: %s", term.Text(f), term.Text(g), term.Text(h), term.Text(left))
		}
		if len(all) > 3 {
			nested++
		}
	}
	if nested < 5000 {
		t.Error("too few:", nested)
	}
}
