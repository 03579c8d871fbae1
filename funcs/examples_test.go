package funcs

import (
	"testing"

	"whittle/api"
)

// The chapter's table of examples, row by row.

func TestExamplesOf(t *testing.T) {
	if s, ok := Of("SUM"); s != (api.Sig{Id: api.FnSum, Class: api.ClassFold, Name: "SUM", Least: 1, Most: 30, Params: "x"}) || !ok {
		t.Fatalf("Of(SUM) = %+v, %v", s, ok)
	}
	if s, ok := Of("sum"); s != (api.Sig{}) || ok {
		t.Fatalf("Of(sum) = %+v", s)
	}
	if s, ok := ById(0); s != (api.Sig{}) || ok {
		t.Fatalf("ById(0) = %+v", s)
	}
}

func TestExamplesApply(t *testing.T) {
	applies(t, "ABS", n(2), n(-2))
	applies(t, "ROUND", n(3), q(5, 2))
	applies(t, "ROUND", wrong, n(1), q(1, 2))
	applies(t, "QUOTIENT", n(-4), n(-7), n(2))
	applies(t, "MOD", divide, n(1), n(0))
	applies(t, "LEFT", txt("a"), txt("abc"))
	applies(t, "MID", txt("bc"), txt("abc"), n(2), n(9))
	applies(t, "REPT", long, txt("ab"), n(200))
	applies(t, "FIND", n(2), txt("b"), txt("abc"))
	applies(t, "TRIM", txt("a b"), txt(" a  b "))
	applies(t, "LEN", n(2), n(12))
	applies(t, "ISERROR", is(true), none)
	applies(t, "LEN", none, none)
}

func TestExamplesFolds(t *testing.T) {
	for _, x := range []run{
		{"SUM", []step{fed(txt("2")), cell(txt("2")), cell(n(3)), cell(is(true))}, n(5), false, false},
		{"AND", []step{cell(n(0))}, is(false), true, false},
		{"AND", []step{cell(n(0)), cell(none)}, is(false), true, false},
		{"MATCH", []step{fed(n(3)), cell(blank), cell(n(3))}, n(2), true, false},
		{"COUNTIF", []step{fed(txt(">2")), cell(n(3)), cell(txt("3")), cell(blank), cell(n(2))}, n(1), false, false},
		{"SUMIF", []step{fed(txt("a")), cell(txt("a"))}, n(0), false, true},
		{"SUMIF", []step{fed(txt("a")), cell(txt("a")), pair(n(5)), cell(txt("b"))}, n(5), false, false},
		{"AVERAGE", nil, divide, false, false},
		{"MAX", nil, n(0), false, false},
		{"PRODUCT", nil, n(1), false, false},
	} {
		x.check(t)
	}
}
