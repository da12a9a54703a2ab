package ty_test

import (
	"strings"
	"testing"

	"loupe/api"
	"loupe/ty"
)

// texted are types and their texts, by hand.
func texted() map[string]api.Type {
	ge, lt := than(api.Ge, node("0")), than(api.Lt, node("1e2"))
	ab := shut(named("a", num()), named("b", str()))
	return map[string]api.Type{
		"any": anything(),

		"null": scal(1), "false": scal(2), "true": scal(4), "num": num(), "str": str(), "null|false": scal(3), "null|num": scal(9), "false|true": scal(6), "num|str": scal(24), "null|false|true|num": scal(15), "null|false|true|num|str": scal(31), "null|str": scal(17),
		"num(>= 0)": scal(8, ge), "num(>= 0, < 100)": scal(8, ge, lt), "num(< 100, >= 0)": scal(8, lt, ge), "num(>= 0, >= 0)": scal(8, ge, ge), "num|str(< 100)": scal(24, lt),
		"str(== null)": scal(16, than(api.Eq, api.Node{})), "null(!= false)": scal(1, than(api.Ne, node("false"))), "true(> true)": scal(4, than(api.Gt, node("true"))), `str(<= "")`: scal(16, than(api.Le, node(`""`))), `str(== "a\"\\/\n\u0000é")`: scal(16, than(api.Eq, node(`"a\"\\/\n\u0000é"`))), "num(== -0.5)": scal(8, than(api.Eq, node("-0.5"))), "num(== 1e999)": scal(8, than(api.Eq, node("1e999"))), `str(!= ", ", != ")")`: scal(16, than(api.Ne, node(`", "`)), than(api.Ne, node(`")"`))),

		"{}": shut(), "{?}": open(), "{a: num}": shut(named("a", num())), "{a: num, ?}": open(named("a", num())), "{a: num, b: str}": ab, "{a: num(>= 0), ?}": open(named("a", scal(8, ge))), "{a: num, b: str, c: {?}, ?}": open(named("a", num()), named("b", str()), named("c", open())), "{a: {a: {a: {}}}}": chain(3, shut()), "{a: {b: num, ?}, c: str}": shut(named("a", open(named("b", num()))), named("c", str())),
		`{"": any}`: shut(named("", anything())), `{" ": any, "9": any, "?": any, AZaz_09: any, _: any, any: any, "b c": any, "b.c": any, null: any, "é": any}`: shut(named(" ", anything()), named("9", anything()), named("?", anything()), named("AZaz_09", anything()), named("_", anything()), named("any", anything()), named("b c", anything()), named("b.c", anything()), named("null", anything()), named("é", anything())), `{"a\"\\/\n\u0000": any}`: shut(named("a\"\\/\n\x00", anything())), `{"𝄞": any, ?}`: open(named("𝄞", anything())),

		"{?: any}": dict(anything()), "{?: {?: num}}": dict(dict(num())), "{?: {?}}": dict(open()), "{?: {a: num, b: str}}": dict(ab),
		"[any]": list(anything()), "[[num]]": list(list(num())), "[{a: num, b: str}]": list(ab), "[null|str]": list(scal(17)),
		"tup()": tup(), "tup(num)": tup(num()), "tup(num, str, any)": tup(num(), str(), anything()), "tup(tup(), tup(tup()))": tup(tup(), tup(tup())), "tup({a: num, b: str}, [num], num(>= 0, < 100))": tup(ab, list(num()), scal(8, ge, lt)),
		"entries(any)": entries(anything()), "entries(entries(str))": entries(entries(str())), "entries({a: num, b: str})": entries(ab),
		"sorted(., num)": sorted(".", num()), "sorted(., num(>= 0))": sorted(".", scal(8, ge)), "sorted(.a, {a: num, b: str})": sorted(".a", ab), `sorted(."b c"."".a, {"b c": {"": {a: num, ?}}})`: sorted(`."b c"."".a`, shut(named("b c", shut(named("", open(named("a", num()))))))),
		"grouped(., num)": grouped(".", num()), "grouped(.b, {a: num, b: str})": grouped(".b", ab), "grouped(.a, {a: num, b: sorted(.b, {a: num, b: str})})": grouped(".a", shut(named("a", num()), named("b", sorted(".b", ab)))),
	}
}

// TestTexts is P12.1: types' texts.
func TestTexts(t *testing.T) {
	for want, x := range texted() {
		if s := ty.Text(x); s != want || !ty.Right(x) {
			t.Errorf("%s, not %s; right: %v", s, want, ty.Right(x))
		}
	}
}

// TestTextsWithin is P12.1: a type has the same text within another one.
func TestTextsWithin(t *testing.T) {
	for s, x := range texted() {
		for want, outer := range map[string]api.Type{
			"[" + s + "]": list(x), "{?: " + s + "}": dict(x), "entries(" + s + ")": entries(x), "tup(" + s + ", any, " + s + ")": tup(x, anything(), x),
			"{a: " + s + `, "b ": ` + s + "}": shut(named("a", x), named("b ", x)), "{a: " + s + ", ?}": open(named("a", x)), "sorted(.a, {a: num, b: " + s + ", ?})": sorted(".a", open(named("a", num()), named("b", x))), "grouped(.b, {a: " + s + ", b: num})": grouped(".b", shut(named("a", x), named("b", num()))),
		} {
			if got := ty.Text(outer); got != want {
				t.Errorf("%s, not %s", got, want)
			}
		}
	}
}

// TestSigns is P12.1: how each way to compare is written.
func TestSigns(t *testing.T) {
	for how, sign := range strings.Fields("== != < <= > >=") {
		if s := ty.Text(list(scal(8, than(how, node("1"))))); s != "[num("+sign+" 1)]" {
			t.Errorf("%d: %s", how, s)
		}
	}
}

// TestMasks is P12.1: a mask's kinds are written rising.
func TestMasks(t *testing.T) {
	names := strings.Fields("null false true num str")
	for mask := 1; mask <= 31; mask++ {
		var l []string
		for kind, name := range names {
			if mask&(1<<kind) != 0 {
				l = append(l, name)
			}
		}
		want := strings.Join(l, "|")
		if s := ty.Text(scal(mask)); s != want {
			t.Errorf("%d: %s, not %s", mask, s, want)
		}
		if s := ty.Text(scal(mask, than(api.Eq, node("1")))); s != want+"(== 1)" {
			t.Errorf("%d: %s, not %s", mask, s, want)
		}
	}
}

// TestExample is the chapter's example: the row of a type by its text.
func TestExample(t *testing.T) {
	x := api.Type{{Kind: api.YObj, Many: 1, N: 1}, {Kind: api.YScal, Many: 1, Name: "a", N: 8}, {Kind: api.YAtom, N: api.Ge, C: api.Node{Kind: api.Num}}}
	if s := ty.Text(x); s != "{a: num(>= 0), ?}" || !ty.Good(x) {
		t.Error(s)
	}
}
