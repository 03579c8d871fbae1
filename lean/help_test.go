package lean

import (
	"fmt"
	"reflect"
	"strconv"
	"strings"
	"testing"

	"whittle/api"
	"whittle/code"
	"whittle/place"
	"whittle/tree"
	"whittle/value"
)

func n(x int) api.Value { return part(x, 1) }

// part is the Number x by y, in lowest terms.
func part(x, y int) api.Value { return api.Value{Kind: api.Number, Num: api.Num{N: x, D: y}} }

func txt(s string) api.Value { return api.Value{Kind: api.Text, Text: s} }

func truth(b bool) api.Value { return api.Value{Kind: api.Truth, True: b} }

func bad(code int) api.Value { return api.Value{Kind: api.Fault, Fault: code} }

var blank = api.Value{}

// home is where the tests' formulas stand, in the sheet S of S and T.
var home = api.Cell{Row: 8, Col: 8}

// row is the tree of a formula.
func row(t *testing.T, s string) []api.Node {
	t.Helper()
	l, why, at := tree.Parse(s)
	if why != api.OK {
		t.Fatalf("Parse(%q): %d at %d", s, why, at)
	}
	return l
}

// shown is a value in words.
func shown(v api.Value) string {
	switch v.Kind {
	case api.Blank:
		return "_"
	case api.Text:
		return strconv.Quote(v.Text)
	}
	return value.Show(v)
}

// on is a name with its sheet's number ahead, but for the sheet 0.
func on(sheet int, name string) string {
	if sheet == 0 {
		return name
	}
	return strconv.Itoa(sheet) + "!" + name
}

func areaName(a api.Area) string { return on(a.Sheet, place.NameArea(a)) }

// says is an instruction in words: its Op and the fields that its Op has.
func says(ins api.Ins) string {
	switch ins.Op {
	case api.InsPush:
		return "push " + shown(ins.V)
	case api.InsLoad:
		return "load " + on(ins.Cell.Sheet, place.Name(ins.Cell))
	case api.InsUn:
		return fmt.Sprint("un ", ins.A)
	case api.InsBin:
		return fmt.Sprint("bin ", ins.A)
	case api.InsCall:
		return fmt.Sprint("call ", ins.A, " ", ins.B)
	case api.InsOpen:
		return fmt.Sprint("open ", ins.A)
	case api.InsScan:
		return "scan " + areaName(ins.Area)
	case api.InsScan2:
		return "scan2 " + areaName(ins.Area) + " " + areaName(ins.Pair)
	case api.InsPick:
		return fmt.Sprint("pick ", areaName(ins.Area), " ", ins.B)
	case api.InsBranch:
		return fmt.Sprint("branch ", ins.A, " ", ins.B)
	case api.InsJump:
		return fmt.Sprint("jump ", ins.A)
	case api.InsGuard:
		return fmt.Sprint("guard ", ins.A)
	case api.InsChoose:
		return fmt.Sprint("choose ", ins.To, " ", ins.B)
	}
	return map[int]string{api.InsFeed: "feed", api.InsClose: "close", api.InsStore: "store"}[ins.Op]
}

// told is a list in words.
func told(l []api.Ins) string {
	var words []string
	for _, ins := range l {
		words = append(words, says(ins))
	}
	return strings.Join(words, "; ")
}

// same: are two lists one, in every field? (nil and an empty list are.)
func same(a, b []api.Ins) bool {
	if len(a) != len(b) {
		return false
	}
	for i, x := range a {
		y := b[i]
		if len(x.To) == 0 && len(y.To) == 0 {
			x.To, y.To = nil, nil
		}
		if !reflect.DeepEqual(x, y) {
			return false
		}
	}
	return true
}

// constAt holds that a formula is settled at a value, and its lean code with it.
func constAt(t *testing.T, s string, want api.Value) {
	t.Helper()
	l := row(t, s)
	if v, ok := Const(l, home, "S", "T"); v != want || !ok {
		t.Errorf("Const of %s is %s, %t, not %s", s, shown(v), ok, shown(want))
	}
	code, why := Flatten(l, home, "S", "T")
	if !same(code, []api.Ins{{Op: api.InsPush, V: want}, {Op: api.InsStore}}) || why != api.OK {
		t.Errorf("Flatten of %s is %s, %d, not push %s; store", s, told(code), why, shown(want))
	}
}

// leanIs holds that a formula is not settled, and its lean code.
func leanIs(t *testing.T, s, want string) {
	t.Helper()
	l := row(t, s)
	if v, ok := Const(l, home, "S", "T"); v != blank || ok {
		t.Errorf("Const of %s is %s, %t", s, shown(v), ok)
	}
	list, why := Flatten(l, home, "S", "T")
	if got := told(list); got != want || why != api.OK {
		t.Errorf("Flatten of %s is\n%s, %d, not\n%s", s, got, why, want)
	}
	if code.Check(list) != api.OK {
		t.Errorf("Flatten of %s is %s: no code", s, told(list))
	}
}

// leanAsEver holds that a formula is not settled, and nothing of it that is not a value: its lean code is its code.
func leanAsEver(t *testing.T, s string) {
	t.Helper()
	list, why := code.Flatten(row(t, s), home, "S", "T")
	if why != api.OK {
		t.Fatalf("code.Flatten refuses %s: %d", s, why)
	}
	leanIs(t, s, told(list))
}
