package parse_test

import (
	"math/rand"
	"slices"
	"strconv"
	"strings"
	"sync"
	"testing"

	"loupe/api"
	"loupe/parse"
	"loupe/term"
)

// TestBack is P9.2: texts of right filters, laid by hand, of each sort of term and part.
func TestBack(t *testing.T) {
	a, b, one, two := field("a"), field(" b"), compare(".a[0]", api.Le, str("x")), compare(".", api.Gt, api.Node{Kind: api.Num, S: "1", E: -1000, Neg: true})
	long := compare(`."x y"`+strings.Repeat(".a", api.MaxSteps-1), api.Eq, api.Node{Kind: api.Num, S: strings.Repeat("7", api.MaxDigits), E: 900})
	for _, f := range []api.Filter{
		id(), a, b, field(""), field("\x00"), field("9"), part(0), part(api.MaxPart), tail(0), tail(api.MaxPart), list(), object(), does(api.OToE), does(api.OFromE), does(api.ORev),
		says(api.OGroup, "."), says(api.OSort, strings.Repeat(`."x y"[1000000]`, api.MaxSteps/2)), says(api.ODel, "."+strings.Repeat("[0]", api.MaxSteps)), says(api.ODel, ".a"),
		pipe(id(), id()), pipe(id(), part(0)), pipe(id(), tail(0), id(), part(1)), pipe(id(), a), pipe(a, b, part(0), tail(1)), pipe(entries(a)...), pipe(does(api.OToE), id(), does(api.OFromE)),
		does(api.OMap, pipe(a, b)), does(api.OVals, does(api.OMap, id())), list(id(), pipe(id(), part(0)), list(list())), object(named("", id()), named("not", pipe(part(0), a)), named("a b", object(named("not", id())))),
		where(one), where(long), where(not(one)), where(not(not(two))), where(and(one, and(two, long))), where(and(and(one, two), long)), where(or(or(one, two), or(one, two))), where(and(or(one, two), or(two, one))), where(or(and(one, two), and(two, one))), where(not(and(one, or(not(two), not(one))))), where(and(not(one), not(or(one, two)))),
	} {
		if !term.Right(f) || tooDeep(t, term.Text(f)) >= 0 {
			t.Fatal("not one to ask of:", short(f))
		}
		again(t, f)
		again(t, list(f, pipe(id(), does(api.OMap, f))))
	}
}

// TestBackDeep is P9.2: as many brackets in brackets as there may be are parsed as they are; with one more it is told which it is.
func TestBackDeep(t *testing.T) {
	for _, x := range []struct {
		around func(api.Filter) api.Filter
		each   int
	}{
		{func(f api.Filter) api.Filter { return list(id(), f) }, 1},
		{func(f api.Filter) api.Filter { return object(named("a", f), named("b", part(0))) }, 1},
		{func(f api.Filter) api.Filter { return does(api.OMap, pipe(id(), f)) }, 1},
		{func(f api.Filter) api.Filter { return pipe(does(api.OVals, f), part(0)) }, 1},
		{func(f api.Filter) api.Filter { return list(pipe(id(), f)) }, 2},
		{func(f api.Filter) api.Filter { return object(named(" ", pipe(f, tail(1)))) }, 2},
	} {
		f := id()
		for range api.MaxNest / x.each {
			f = x.around(f)
		}
		if s := term.Text(f); tooDeep(t, s) >= 0 {
			t.Error("too deep:", s)
		}
		again(t, f)
		for _, more := range []api.Filter{list(f), object(named("a", f)), does(api.OMap, f)} {
			if s := term.Text(more); tooDeep(t, s) < 0 {
				t.Error("not too deep:", s)
			}
			again(t, more)
		}
	}
	c := compare(".a", api.Eq, number("1"))
	for range api.MaxNest - 1 {
		c = not(c)
	}
	again(t, where(c))
	refuses(t, term.Text(where(not(c))), api.ErrDepth, len("select(")+api.MaxNest-1)
}

// TestAddedBrackets is P9.3 where a filter's text has brackets that what was parsed had not: as many as there may be are parsed, and one more is in too many, as I1 says.
func TestAddedBrackets(t *testing.T) {
	// Of n conditions joined from the left the first two are in n - 2 brackets, and in select's.
	joined := func(n int) string { return "select(.a==1" + strings.Repeat(" and .a==1", n-1) + ")" }
	for _, n := range []int{2, 3, 40, api.MaxNest, api.MaxNest + 1, api.MaxNest + 2, 2 * api.MaxNest} {
		f, at, err := parse.Parse(joined(n))
		if err != api.OK || at != 0 || !term.Right(f) || len(f) != 2*n {
			t.Fatal(n, len(f), err, at)
		}
		if place := tooDeep(t, term.Text(f)); (place >= 0) != (n > api.MaxNest+1) {
			t.Error(n, place)
		}
		again(t, f)
	}
	open, close := strings.Repeat("[", api.MaxNest), strings.Repeat("]", api.MaxNest)
	want := pipe(field("a"), field("b"))
	for range api.MaxNest {
		want = list(want)
	}
	tells(t, open+".a.b"+close, want)
	tells(t, open[1:]+".a.b"+close[1:], term.Parts(want)[0])
	refuses(t, term.Text(want), api.ErrDepth, api.MaxNest)
}

// TestOwnMemory is P9.1, by R4: what is parsed is memory of its own, its spare room too.
func TestOwnMemory(t *testing.T) {
	for _, s := range []string{".", ".a", ".a|.b.c", "{a:.b,c:{d:.}}", "[.,[.],.a]", "select(.a==1 and (.b==2|not))", "with_entries(.a)", "(((.a)))", "[(.a)]"} {
		one, _, _ := parse.Parse(s)
		two, _, _ := parse.Parse(s)
		want := slices.Clone(two)
		for i := range one[:cap(one)] {
			one[:cap(one)][i] = api.Term{Op: 77}
		}
		three, _, _ := parse.Parse(s)
		if !slices.Equal(two, want) || !slices.Equal(three, want) {
			t.Errorf("%s: %+v, then %+v", s, two, three)
		}
	}
}

// TestSame is P9.1, by R5: a text is told the same, whoever asks, also where many ask at once, and whatever was asked ahead.
func TestSame(t *testing.T) {
	texts := []string{".a|.b", "{a:.,a:.}", strings.Repeat("[", 65), "$", "", "map(select(.a==1)|.b)", ".[1.5]", "{b:.,a:.}"}
	var wants []string
	tell := func(s string) string {
		f, at, err := parse.Parse(s)
		return term.Text(f) + "/" + strings.Repeat("a", at) + "/" + strings.Repeat("e", int(err))
	}
	for _, s := range texts {
		wants = append(wants, tell(s))
	}
	failed := make([]string, 32)
	var all sync.WaitGroup
	for i := range failed {
		all.Go(func() {
			for k := range 200 {
				if n := (i + k) % len(texts); tell(texts[n]) != wants[n] {
					failed[i] = texts[n]
				}
			}
		})
	}
	all.Wait()
	if s := strings.Join(failed, ""); s != "" {
		t.Error(s)
	}
}

// TestAnyText is P9.1, by R1, and P9.3: no text makes the call fail; what is parsed is right, and an error has a place in the text; what stands behind that has no part in it.
func TestAnyText(t *testing.T) {
	r := rand.New(rand.NewSource(3))
	pieces := append(strings.Fields(`. . | , : ( ) [ ] { } == != <= >= < > ? .a ."b" a "s" 0 1 1.5 -1 1e1000 map( map_values( with_entries( select( group_by( sort_by( del( to_entries reverse not and or null .[0] {a: } ] ) .a==1 $ " \ é`), " ", "\n", "\x00", "\xff", strings.Repeat("[", 20), strings.Repeat("(", 20))
	count := map[api.Errno]int{}
	for i := range 60000 {
		var b strings.Builder
		if i%8 == 0 {
			b.WriteString(strings.Repeat(someOf(r, []string{"[", "(", "{a:", "map("}), r.Intn(70)))
		}
		for range r.Intn(12) {
			b.WriteString(pieces[r.Intn(1+r.Intn(len(pieces)))])
		}
		s := b.String()
		f, at, err := parse.Parse(s)
		count[err]++
		if err == api.OK {
			if at != 0 || !term.Right(f) {
				t.Fatalf("%q: %s %d", s, short(f), at)
			}
			again(t, f)
			continue
		}
		if f != nil || at < 0 || at > len(s) {
			t.Fatalf("%q: %s %d %d", s, short(f), at, err)
		}
		if err == api.ErrDepth && (at == len(s) || !strings.Contains("([{", s[at:at+1])) {
			t.Fatalf("%q: %d %d", s, at, err)
		}
	}
	for _, err := range []api.Errno{api.OK, api.ErrForm, api.ErrLarge, api.ErrDepth} {
		if count[err] < 100 {
			t.Error("too few of one sort:", count)
		}
	}
}

// most is how many parts in one another the document bounds.
const most = 1 << 16

// TestLong is P9.1, P9.2 and P9.3 for many posts, suffixes, parts, entries and conditions beside one another: they are not copied over again for each one.
func TestLong(t *testing.T) {
	a := field("a")
	many := repeated(a, most)
	piped := make(api.Filter, 0, 2*most)
	for range most - 1 {
		piped = append(piped, api.Term{Op: api.OPipe, Many: 2}, a[0])
	}
	piped = append(piped, a[0])
	tells(t, strings.Repeat(".a|", most-1)+".a", piped)
	tells(t, strings.Repeat(".a", most), piped)
	tells(t, strings.Repeat("(.a)|", most-1)+".a", piped)
	tells(t, "map("+strings.Repeat(".a|.a.a|", most/4)+".a)", does(api.OMap, piped[2*(most-most/4*3-1):]))
	tells(t, "["+strings.Repeat(".a,", most-1)+".a]", list(many...))
	tells(t, "["+strings.Repeat("[", 62)+strings.Repeat(".a,", most/8-1)+".a"+strings.Repeat("]", 63), nested(62, list(many[:most/8]...)))
	c := compare(".a", api.Eq, number("1"))
	for word, op := range map[string]int{" and ": api.PAnd, " or ": api.POr} {
		want := api.Filter{{Op: api.OWhere, Many: 1}}
		want = append(append(want, slices.Repeat(api.Filter{{Op: op, Many: 2}}, most-1)...), slices.Repeat(c, most)...)
		f, at, err := parse.Parse("select(" + strings.Repeat(".a==1"+word, most-1) + ".a==1)")
		if err != api.OK || at != 0 || !slices.Equal(f, want) || !term.Right(f) {
			t.Error(word, len(f), err, at)
		}
	}
	refuses(t, strings.Repeat(".a|", most), api.ErrForm, 3*most)
	refuses(t, strings.Repeat(".a", most)+" .", api.ErrForm, 2*most+1)
	refuses(t, strings.Repeat("(", most), api.ErrDepth, api.MaxNest)
	refuses(t, strings.Repeat("{a:", most), api.ErrDepth, 3*api.MaxNest)
}

func nested(deep int, f api.Filter) api.Filter {
	for range deep {
		f = list(f)
	}
	return f
}

// TestManyNames is P9.1 for an object of many entries: a name that came ahead is found, wherever it did.
func TestManyNames(t *testing.T) {
	var b strings.Builder
	var parts []api.Filter
	for i := range most {
		name := "n" + strconv.Itoa(i*7%most)
		b.WriteString(name + ":.,")
		parts = append(parts, named(name, id()))
	}
	s := b.String()
	tells(t, "{"+s[:len(s)-1]+"}", object(parts...))
	refuses(t, "{"+s+parts[0][0].Name+":.}", api.ErrForm, 1+len(s))
	refuses(t, "{"+s+parts[most/2][0].Name+":.}", api.ErrForm, 1+len(s))
	refuses(t, "{"+s+parts[most-1][0].Name+":.}", api.ErrForm, 1+len(s))
}
