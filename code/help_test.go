package code

import (
	"fmt"
	"reflect"
	"slices"
	"strconv"
	"strings"
	"testing"

	"whittle/api"
	"whittle/place"
	"whittle/tree"
	"whittle/value"
)

func n(x int) api.Value { return value.Number(api.Num{N: x, D: 1}) }

func push(x int) api.Ins { return api.Ins{Op: api.InsPush, V: n(x)} }

func load(c api.Cell) api.Ins { return api.Ins{Op: api.InsLoad, Cell: c} }

func un() api.Ins { return api.Ins{Op: api.InsUn, A: api.OpNeg} }

func bin() api.Ins { return api.Ins{Op: api.InsBin, A: api.OpAdd} }

func call(id, args int) api.Ins { return api.Ins{Op: api.InsCall, A: id, B: args} }

func open(id int) api.Ins { return api.Ins{Op: api.InsOpen, A: id} }

func feed() api.Ins { return api.Ins{Op: api.InsFeed} }

func scan(a api.Area) api.Ins { return api.Ins{Op: api.InsScan, Area: a} }

func scan2(a, b api.Area) api.Ins { return api.Ins{Op: api.InsScan2, Area: a, Pair: b} }

func shut() api.Ins { return api.Ins{Op: api.InsClose} }

func pick(a api.Area, b int) api.Ins { return api.Ins{Op: api.InsPick, Area: a, B: b} }

func branch(a, b int) api.Ins { return api.Ins{Op: api.InsBranch, A: a, B: b} }

func jump(a int) api.Ins { return api.Ins{Op: api.InsJump, A: a} }

func guard(a int) api.Ins { return api.Ins{Op: api.InsGuard, A: a} }

func choose(b int, to ...int) api.Ins { return api.Ins{Op: api.InsChoose, B: b, To: to} }

func store() api.Ins { return api.Ins{Op: api.InsStore} }

// area is the one of that name on the sheet 0.
func area(t *testing.T, name string) api.Area {
	t.Helper()
	top, left, bottom, right, ok := place.ReadArea(name)
	if !ok {
		t.Fatalf("%q is no area", name)
	}
	return api.Area{Top: top, Left: left, Bottom: bottom, Right: right}
}

// row is the tree of a formula.
func row(t *testing.T, s string) []api.Node {
	t.Helper()
	l, why, at := tree.Parse(s)
	if why != api.OK {
		t.Fatalf("Parse(%q): %d at %d", s, why, at)
	}
	return l
}

// flat is the code of a formula in the sheet S of S and T.
func flat(t *testing.T, s string) []api.Ins {
	t.Helper()
	l, why := Flatten(row(t, s), api.Cell{Row: 8, Col: 8}, "S", "T")
	if why != api.OK {
		t.Fatalf("Flatten(%s): %d", s, why)
	}
	return l
}

// says is an instruction in words, with a remark if a field is set that its Op doesn't have.
func says(ins api.Ins) string {
	s, rest := "", ins
	rest.Op = 0
	switch ins.Op {
	case api.InsPush:
		s, rest.V = "push "+shown(ins.V), api.Value{}
	case api.InsLoad:
		s, rest.Cell = "load "+cellName(ins.Cell), api.Cell{}
	case api.InsUn, api.InsBin, api.InsOpen:
		s, rest.A = []string{3: "un", 4: "bin", 6: "open"}[ins.Op]+" "+strconv.Itoa(ins.A), 0
	case api.InsCall:
		s, rest.A, rest.B = fmt.Sprint("call ", ins.A, " ", ins.B), 0, 0
	case api.InsFeed, api.InsClose, api.InsStore:
		s = []string{7: "feed", 10: "close", 16: "store"}[ins.Op]
	case api.InsScan:
		s, rest.Area = "scan "+areaName(ins.Area), api.Area{}
	case api.InsScan2:
		s, rest.Area, rest.Pair = "scan2 "+areaName(ins.Area)+" "+areaName(ins.Pair), api.Area{}, api.Area{}
	case api.InsPick:
		s, rest.Area, rest.B = fmt.Sprint("pick ", areaName(ins.Area), " ", ins.B), api.Area{}, 0
	case api.InsBranch:
		s, rest.A, rest.B = fmt.Sprint("branch ", ins.A, " ", ins.B), 0, 0
	case api.InsJump, api.InsGuard:
		s, rest.A = []string{13: "jump", 14: "guard"}[ins.Op]+" "+strconv.Itoa(ins.A), 0
	case api.InsChoose:
		s, rest.To, rest.B = fmt.Sprint("choose ", ins.To, " ", ins.B), nil, 0
	}
	if rest.To = slices.Clip(rest.To); len(rest.To) == 0 {
		rest.To = nil
	}
	if s == "" || !reflect.DeepEqual(rest, api.Ins{}) {
		s += fmt.Sprintf(" ?%+v", ins)
	}
	return s
}

func shown(v api.Value) string {
	switch v.Kind {
	case api.Blank:
		return "_"
	case api.Text:
		return strconv.Quote(v.Text)
	}
	return value.Show(v)
}

func cellName(c api.Cell) string {
	name := place.Name(c)
	if c.Sheet != 0 {
		name = strconv.Itoa(c.Sheet) + "!" + name
	}
	return name
}

func areaName(a api.Area) string {
	name := place.NameArea(a)
	if a.Sheet != 0 {
		name = strconv.Itoa(a.Sheet) + "!" + name
	}
	return name
}

// told is a list in words.
func told(l []api.Ins) string {
	var words []string
	for _, ins := range l {
		words = append(words, says(ins))
	}
	return strings.Join(words, "; ")
}

// isCode holds that a list is a code.
func isCode(t *testing.T, l ...api.Ins) {
	t.Helper()
	if why := Check(l); why != api.OK {
		t.Fatalf("Check of %s is %d", told(l), why)
	}
}

// isNone holds that a list is no code, uses nothing and has no bounds.
func isNone(t *testing.T, l ...api.Ins) {
	t.Helper()
	if why := Check(l); why != api.ErrCode {
		t.Fatalf("Check of %s is %d", told(l), why)
	}
	if uses := Uses(l); len(uses) != 0 {
		t.Fatalf("Uses of %s, no code, is %v", told(l), uses)
	}
	if least, most := Bounds(l); least != 0 || most != 0 {
		t.Fatalf("Bounds of %s, no code, is %d, %d", told(l), least, most)
	}
}

// bounded holds a code's bounds.
func bounded(t *testing.T, l []api.Ins, least, most int) {
	t.Helper()
	if a, b := Bounds(l); a != least || b != most {
		t.Fatalf("Bounds of %s is %d, %d, not %d, %d", told(l), a, b, least, most)
	}
}

// using holds what a code uses.
func using(t *testing.T, l []api.Ins, want ...api.Area) {
	t.Helper()
	if got := Uses(l); !slices.Equal(got, want) {
		t.Fatalf("Uses of %s is %v, not %v", told(l), got, want)
	}
}
