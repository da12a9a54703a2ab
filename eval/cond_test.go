package eval_test

import (
	"strconv"
	"strings"
	"testing"

	"loupe/api"
	"loupe/eval"
)

// TestSigns is P10.1: each sign, with less, the same and greater.
func TestSigns(t *testing.T) {
	for _, x := range [][2]string{
		{"null", "false"}, {"false", "true"}, {"true", "-1e999"}, {"-2", "-1.5"}, {"-1", "0"}, {"0", "1e-1000"}, {"1", "1.5"}, {"9", "10"}, {"2e3", "20e3"}, {"123456789012345678901234567890", "123456789012345678901234567891"}, {"1e999", `""`}, {`""`, `"a"`}, {`"B"`, `"a"`}, {`"a"`, `"aa"`}, {`"z"`, `"é"`}, {`"ｚ"`, `"𝄞"`}, {"null", `"null"`}, {"1", `"0"`},
	} {
		less, greater := x[0], x[1]
		for sign, want := range map[string]string{"==": "no yes no", "!=": "yes no yes", "<": "yes no no", "<=": "yes yes no", ">": "no no yes", ">=": "no yes yes"} {
			l := strings.Fields(want)
			holds(t, ". "+sign+" "+greater, less, l[0])
			holds(t, ". "+sign+" "+less, less, l[1])
			holds(t, ". "+sign+" "+greater, greater, l[1])
			holds(t, ". "+sign+" "+less, greater, l[2])
			holds(t, ".x[0] "+sign+" "+less, `{"x":[`+greater+`]}`, l[2])
		}
	}
	for _, v := range []string{"[]", "[null]", "{}", `{"a":null}`, "[[],{}]"} {
		for _, c := range []string{"null", "false", "true", "1e999", `"zz"`} {
			for sign, want := range map[string]string{"==": no, "!=": yes, "<": no, "<=": no, ">": yes, ">=": yes} {
				holds(t, ". "+sign+" "+c, v, want)
				holds(t, ".a "+sign+" "+c, `{"Z":0,"a":`+v+`}`, want)
			}
		}
	}
}

// TestWritten is P10.1: numbers that are written otherwise, and strings, are the same.
func TestWritten(t *testing.T) {
	for _, x := range [][3]string{
		{". == 1.50e2", "150", yes}, {". == -0", "0", yes}, {". == 1", "1.0", yes}, {`. == "\u0061"`, `"a"`, yes}, {`. == "a"`, `"A"`, no}, {". == 0.1", "0.10000000000000000000000001", no},
	} {
		holds(t, x[0], x[1], x[2])
	}
}

// TestThere is P10.1: what stands at a condition's path, what does not, and paths that are errors.
func TestThere(t *testing.T) {
	const v = `{"a":1,"b":null,"c":[5,{"d":"x"}],"e":{"f":true}}`
	for _, x := range [][2]string{
		{".a == 1", yes}, {".a == 2", no}, {".b == null", yes}, {".z == null", yes}, {".z.y[1].x == null", yes}, {".b.x == null", yes}, {".b[0] != null", no}, {".c[0] == 5", yes}, {".c[1].d == \"x\"", yes}, {".c[1].z == null", yes}, {".c[2] == null", yes}, {".c[2].d < false", yes}, {".e.f == true", yes}, {".e > \"\"", yes}, {". == null", no},
		{".a.c == null", wrong}, {".a[0] == null", wrong}, {".c.a == null", wrong}, {".c[0].a == 1", wrong}, {".c[0][0] == 1", wrong}, {".e[0] == 1", wrong}, {".e.f.g != 1", wrong}, {".[0] == null", wrong},
	} {
		holds(t, x[0], v, x[1])
		holds(t, "("+x[0]+" | not)", v, map[string]string{yes: no, no: yes, wrong: wrong}[x[1]])
	}
}

// TestJoined is P10.1 and P10.4: and, or and not of conditions that hold, do not, and are errors; of them the second one is asked only where the first one does not settle it.
func TestJoined(t *testing.T) {
	given := map[string]string{yes: ". == 1", no: ". == 2", wrong: ".a == 1"}
	both := func(p, q string) string {
		if p == yes {
			return q
		}
		return p
	}
	one := func(p, q string) string {
		if p == no {
			return q
		}
		return p
	}
	not := map[string]string{yes: no, no: yes, wrong: wrong}
	for p, a := range given {
		holds(t, "("+a+" | not)", "1", not[p])
		holds(t, "(("+a+" | not) | not)", "1", p)
		for q, b := range given {
			holds(t, a+" and "+b, "1", both(p, q))
			holds(t, a+" or "+b, "1", one(p, q))
			holds(t, "("+a+" and "+b+" | not)", "1", not[both(p, q)])
			holds(t, "("+a+" or "+b+" | not)", "1", not[one(p, q)])
			for r, c := range given {
				holds(t, a+" and "+b+" or "+c, "1", one(both(p, q), r))
				holds(t, a+" or "+b+" and "+c, "1", one(p, both(q, r)))
				holds(t, "("+a+" or "+b+") and "+c, "1", both(one(p, q), r))
				holds(t, a+" and ("+b+" or "+c+")", "1", both(p, one(q, r)))
				holds(t, a+" and ("+b+" and "+c+" | not)", "1", both(p, not[both(q, r)]))
			}
		}
	}
}

// TestSelected is P10.1: what select gives hangs on what Holds tells.
func TestSelected(t *testing.T) {
	for i, v := range kinds() {
		for _, p := range []string{". == 7", ".a == 1", ". > 7", "(. < \"b\" | not)", ".[0] == 5 or . == 1", ". != null and .a <= 1"} {
			want := map[string]string{yes: v, no: none, wrong: wrong}[toldOf(eval.Holds(condOf(t, p), valueOf(t, v)))]
			gives(t, "select("+p+")", v, want)
			x := map[string]string{none: "[[]]", wrong: wrong}[want]
			if x == "" {
				x = "[[" + v + "]]"
			}
			gives(t, "[[select("+p+")]]", v, x)
			gives(t, ".["+strconv.Itoa(i)+"] | [[select("+p+")]]", "["+strings.Join(kinds(), ",")+"]", x)
		}
	}
}

// TestNoCondition is P10.1: a condition is a filter's part; asked by hand, by each sign, with a node of each kind.
func TestNoCondition(t *testing.T) {
	x := api.Node{Kind: api.Num, S: "15", E: -1, Neg: true}
	for n, want := range []string{no, yes, yes, yes, no, no} {
		if got := toldOf(eval.Holds(compare(".a", n, x), valueOf(t, `{"a":-1.6}`))); got != want {
			t.Error(n, got)
		}
	}
	for kind, c := range []api.Node{{}, {Kind: api.False}, {Kind: api.True}, {Kind: api.Num}, {Kind: api.Str, S: "é"}} {
		for k, v := range []string{"null", "false", "true", "0", `"é"`, "[]", "{}"} {
			if got := toldOf(eval.Holds(compare(".", api.Lt, c), valueOf(t, v))); (got == yes) != (k < kind) || got == wrong {
				t.Error(kind, v, got)
			}
			if got := toldOf(eval.Holds(compare(".", api.Eq, c), valueOf(t, v))); (got == yes) != (k == kind) || got == wrong {
				t.Error(kind, v, got)
			}
		}
	}
}
