package path_test

import (
	"math/rand"
	"regexp"
	"slices"
	"strconv"
	"strings"
	"testing"

	"loupe/api"
	"loupe/path"
	"loupe/quote"
	"loupe/text"
	"loupe/val"
)

// someNames are names for fields: words, and names that are none.
func someNames() []string {
	return []string{"", "a", "b", "ab", "_", "B9", "9", "0", "a b", ".", "[0]", `"`, `\`, "/", "\n", "\x00", "é", "\ufffd", "𝄞", "a.b", "a[0]"}
}

// somePath is a path of chance.
func somePath(r *rand.Rand) api.Path {
	var steps api.Path
	for range r.Intn(api.MaxSteps + 1) {
		steps = append(steps, someStep(r))
	}
	return steps
}

func someStep(r *rand.Rand) api.Step {
	switch r.Intn(4) {
	case 0:
		return part(r.Intn(4))
	case 1:
		return part(r.Intn(api.MaxPart + 1))
	}
	names := someNames()
	return field(names[r.Intn(len(names))] + names[r.Intn(len(names))])
}

// TestBack is P6.2: a path's text is read as it, and no two paths have one text.
func TestBack(t *testing.T) {
	r := rand.New(rand.NewSource(1))
	seen := map[string]api.Path{}
	for range 20000 {
		steps := somePath(r)
		s := path.Text(steps)
		got, at, err := path.Read(s)
		if err != api.OK || at != 0 || !slices.Equal(got, steps) || !path.Right(got) {
			t.Errorf("%s: %+v, %d at %d", s, got, err, at)
		}
		if had, is := seen[s]; is && !slices.Equal(had, steps) {
			t.Errorf("%s: %+v and %+v", s, had, steps)
		}
		seen[s] = steps
	}
	if len(seen) < 15000 {
		t.Error("too few:", len(seen))
	}
}

// stepForms are a step's forms, but for what Quote writes: a field by a word, by a string, a part.
func stepForms() (first, later *regexp.Regexp) {
	const form = `(?:\.([a-zA-Z_][a-zA-Z_0-9]*)|\.("(?:[^"\\]|\\.)*")|MARK\[(0|[1-9][0-9]{0,6})\])`
	return regexp.MustCompile("^" + strings.Replace(form, "MARK", `\.`, 1)), regexp.MustCompile("^" + strings.Replace(form, "MARK", "", 1))
}

// formed is what the chapter says of a text, by the forms of its steps.
func formed(s string, form, later *regexp.Regexp) (api.Path, int, bool) {
	var steps api.Path
	at := 0
	for s != "." && (at < len(s) || at == 0) {
		m := form.FindStringSubmatch(s[at:])
		form = later
		if m == nil || len(steps) == api.MaxSteps {
			return nil, at, false
		}
		step := field(m[1])
		if m[2] != "" {
			name, long, err := quote.Unquote(m[2])
			if err != api.OK || long != len(m[2]) || quote.Quote(name) != m[2] || regexp.MustCompile(`^[a-zA-Z_][a-zA-Z_0-9]*$`).MatchString(name) {
				return nil, at, false
			}
			step.Name = name
		}
		if m[3] != "" {
			n, _ := strconv.Atoi(m[3])
			if n > api.MaxPart {
				return nil, at, false
			}
			step = part(n)
		}
		steps = append(steps, step)
		at += len(m[0])
	}
	return steps, 0, true
}

// readAsFormed holds Read of a text against its form.
func readAsFormed(t *testing.T, s string, first, later *regexp.Regexp) bool {
	t.Helper()
	want, place, is := formed(s, first, later)
	steps, at, err := path.Read(s)
	if at != place || (err == api.OK) != is || !is && err != api.ErrForm || !slices.Equal(steps, want) {
		t.Errorf("%q: %+v, %d at %d, not %+v at %d", s, steps, err, at, want, place)
	}
	if is && path.Text(steps) != s {
		t.Errorf("%q: written as %q", s, path.Text(steps))
	}
	return is
}

// TestForms is P6.1 and P6.2: all texts of few marks are read as the chapter's forms say, and what is read has that text.
func TestForms(t *testing.T) {
	const marks = `.a"[]01\ `
	first, later := stepForms()
	read := 0
	var longer func(s string)
	longer = func(s string) {
		if readAsFormed(t, s, first, later) {
			read++
		}
		if len(s) == 6 {
			return
		}
		for i := range marks {
			longer(s + marks[i:i+1])
		}
	}
	longer("")
	if read < 500 {
		t.Error("too few are read:", read)
	}
}

// TestChanged is P6.1 and P6.2: texts of paths with a byte more, less or another are read as the chapter's forms say.
func TestChanged(t *testing.T) {
	const marks = `.a"[]019\u/- ` + "\n"
	first, later := stepForms()
	r := rand.New(rand.NewSource(2))
	read := 0
	for range 20000 {
		s := path.Text(somePath(r))
		from := r.Intn(len(s) + 1)
		to := min(len(s), from+r.Intn(2))
		mark := r.Intn(len(marks))
		if readAsFormed(t, s[:from]+marks[mark:mark+r.Intn(2)]+s[to:], first, later) {
			read++
		}
	}
	if read < 3000 || read > 17000 {
		t.Error("read:", read)
	}
}

// someVal is a value of chance.
func someVal(r *rand.Rand, room int) api.Val {
	leaves := []api.Val{{{Kind: api.Null}}, {{Kind: api.False}}, {{Kind: api.True}}, {{Kind: api.Num, S: "12", E: -1}}, {{Kind: api.Str, S: "a"}}}
	kind := r.Intn(5)
	if room == 0 || kind > 3 {
		return leaves[r.Intn(len(leaves))]
	}
	var l []api.Val
	var names []string
	for _, name := range []string{"", "a", "b c"} {
		if r.Intn(3) > 0 {
			l, names = append(l, someVal(r, room-1)), append(names, name)
		}
	}
	if kind < 2 {
		return val.List(l)
	}
	o, _ := val.Object(names, l)
	return o
}

// within is the part to which a step leads, by val's calls.
func within(step api.Step, v api.Val) (api.Val, api.Errno) {
	if step.Part {
		parts := val.Parts(v)
		switch {
		case v[0].Kind != api.Arr:
			return nil, api.ErrType
		case step.N >= len(parts):
			return nil, api.ErrNone
		}
		return parts[step.N], api.OK
	}
	x, is := val.Field(v, step.Name)
	switch {
	case v[0].Kind != api.Obj:
		return nil, api.ErrType
	case !is:
		return nil, api.ErrNone
	}
	return x, api.OK
}

// got is what stands at a path, step by step.
func got(p api.Path, v api.Val) (api.Val, api.Errno) {
	for _, step := range p {
		x, err := within(step, v)
		if err != api.OK {
			return nil, err
		}
		v = x
	}
	return v, api.OK
}

// set is v with x at a path, from within to without.
func set(p api.Path, v, x api.Val) (api.Val, api.Errno) {
	if len(p) == 0 {
		return x, api.OK
	}
	inner, err := within(p[0], v)
	if err != api.OK {
		return nil, err
	}
	if inner, err = set(p[1:], inner, x); err != api.OK {
		return nil, err
	}
	if !p[0].Part {
		return val.With(v, p[0].Name, inner), api.OK
	}
	parts := val.Parts(v)
	parts[p[0].N] = inner
	return val.List(parts), api.OK
}

// places are the paths to all that stands in a value, itself too, and some to what does not.
func places(v api.Val) []api.Path {
	l := []api.Path{nil, {field("none")}, {part(len(val.Parts(v)))}}
	names := val.Names(v)
	for i, x := range val.Parts(v) {
		step := part(i)
		if len(names) > 0 {
			step = field(names[i])
		}
		for _, p := range places(x) {
			l = append(l, append(api.Path{step}, p...))
		}
	}
	return l
}

// thinned is a list without most of it, so that all triples of what is left can be gone through.
func thinned(r *rand.Rand, l []api.Path, many int) []api.Path {
	r.Shuffle(len(l), func(i, k int) { l[i], l[k] = l[k], l[i] })
	return l[:min(many, len(l))]
}

// TestGotAndSet is P6.1: what Get and Set answer is what val's calls, step by step, do.
func TestGotAndSet(t *testing.T) {
	r := rand.New(rand.NewSource(3))
	told := [api.ErrNone + 1]int{}
	for range 600 {
		v, x := someVal(r, 5), someVal(r, 2)
		for _, p := range places(v) {
			want, fails := got(p, v)
			y, err := path.Get(p, v)
			if err != fails || !slices.Equal(y, want) {
				t.Fatalf("get %s of %s: %s, %d", path.Text(p), text.Compact(v), text.Compact(y), err)
			}
			want, fails = set(p, v, x)
			y, err = path.Set(p, v, x)
			if err != fails || !slices.Equal(y, want) {
				t.Fatalf("set %s of %s to %s: %s, %d", path.Text(p), text.Compact(v), text.Compact(x), text.Compact(y), err)
			}
			told[err]++
		}
	}
	if told[api.OK] < 1000 || told[api.ErrType] < 1000 || told[api.ErrNone] < 1000 {
		t.Error("told too seldom:", told)
	}
}

// TestSetIsGot is P6.3: what is set is got, and what is told at a path apart stays, an error too.
func TestSetIsGot(t *testing.T) {
	r := rand.New(rand.NewSource(4))
	stay := 0
	for range 600 {
		v, x := someVal(r, 5), someVal(r, 2)
		l := thinned(r, places(v), 20)
		for _, p := range l {
			w, err := path.Set(p, v, x)
			if err != api.OK {
				continue
			}
			if y, err := path.Get(p, w); err != api.OK || !slices.Equal(y, x) || !val.Right(w) {
				t.Errorf("%s of %s: %s, %d", path.Text(p), text.Compact(w), text.Compact(y), err)
			}
			for _, q := range l {
				if !path.Apart(p, q) {
					continue
				}
				stay++
				was, had := path.Get(q, v)
				if is, has := path.Get(q, w); has != had || !slices.Equal(is, was) {
					t.Errorf("%s of %s: %s, %d, set at %s", path.Text(q), text.Compact(v), text.Compact(is), has, path.Text(p))
				}
			}
		}
	}
	if stay < 5000 {
		t.Error("too few that stay:", stay)
	}
}

// TestSetInTurn is P6.4: what is set at two paths apart is the same in either order; what is refused in the one is in the other.
func TestSetInTurn(t *testing.T) {
	r := rand.New(rand.NewSource(5))
	both, other := 0, 0
	for range 600 {
		v, x, y := someVal(r, 5), someVal(r, 2), someVal(r, 2)
		l := thinned(r, places(v), 20)
		for _, p := range l {
			for _, q := range l {
				one, first := twice(p, q, v, x, y)
				two, last := twice(q, p, v, y, x)
				same := (first == api.OK) == (last == api.OK) && slices.Equal(one, two)
				if !path.Apart(p, q) {
					if !same {
						other++
					}
					continue
				}
				if first == api.OK {
					both++
				}
				if !same {
					t.Errorf("%s: %s at %s and %s at %s: %s, %d, and %s, %d", text.Compact(v), text.Compact(x), path.Text(p), text.Compact(y), path.Text(q), text.Compact(one), first, text.Compact(two), last)
				}
			}
		}
	}
	// Paths that are not apart show that the order counts elsewhere.
	if both < 1000 || other < 1000 {
		t.Error("too few:", both, other)
	}
}

// twice is v with x at p, and then y at q.
func twice(p, q api.Path, v, x, y api.Val) (api.Val, api.Errno) {
	w, err := path.Set(p, v, x)
	if err != api.OK {
		return nil, err
	}
	return path.Set(q, w, y)
}

// TestApartBySteps is P6.3: paths are apart just where a step of both differs.
func TestApartBySteps(t *testing.T) {
	r := rand.New(rand.NewSource(6))
	told := map[bool]int{}
	for range 20000 {
		p, q := somePath(r), somePath(r)
		// They share a beginning of chance.
		shared := r.Intn(len(p) + 1)
		q = append(slices.Clone(p[:shared]), q...)
		if r.Intn(2) == 0 {
			q = slices.Clone(p[:shared])
		}
		want := false
		for i := range min(len(p), len(q)) {
			want = want || p[i] != q[i]
		}
		told[want]++
		if path.Apart(p, q) != want || path.Apart(q, p) != want {
			t.Errorf("%s and %s: not %v", path.Text(p), path.Text(q), want)
		}
	}
	if told[true] < 5000 || told[false] < 5000 {
		t.Error("told too seldom:", told)
	}
}
