package machine

import (
	"reflect"
	"slices"
	"testing"

	"whittle/api"
	"whittle/code"
	"whittle/place"
	"whittle/tree"
	"whittle/value"
)

func n(x int) api.Value { return part(x, 1) }

// part is the Number x by y, in lowest terms.
func part(x, y int) api.Value { return api.Value{Kind: api.Number, Num: api.Num{N: x, D: y}} }

func txt(s string) api.Value { return api.Value{Kind: api.Text, Text: s} }

func truth(b bool) api.Value { return api.Value{Kind: api.Truth, True: b} }

func bad(code int) api.Value { return api.Value{Kind: api.Fault, Fault: code} }

var blank = api.Value{}

func push(v api.Value) api.Ins { return api.Ins{Op: api.InsPush, V: v} }

func load(c api.Cell) api.Ins { return api.Ins{Op: api.InsLoad, Cell: c} }

func un(op int) api.Ins { return api.Ins{Op: api.InsUn, A: op} }

func bin(op int) api.Ins { return api.Ins{Op: api.InsBin, A: op} }

func call(id, args int) api.Ins { return api.Ins{Op: api.InsCall, A: id, B: args} }

func open(id int) api.Ins { return api.Ins{Op: api.InsOpen, A: id} }

func feed() api.Ins { return api.Ins{Op: api.InsFeed} }

func scan(a api.Area) api.Ins { return api.Ins{Op: api.InsScan, Area: a} }

func scan2(a, b api.Area) api.Ins { return api.Ins{Op: api.InsScan2, Area: a, Pair: b} }

func shut() api.Ins { return api.Ins{Op: api.InsClose} }

func pickOf(a api.Area, b int) api.Ins { return api.Ins{Op: api.InsPick, Area: a, B: b} }

func branch(a, b int) api.Ins { return api.Ins{Op: api.InsBranch, A: a, B: b} }

func jump(a int) api.Ins { return api.Ins{Op: api.InsJump, A: a} }

func guard(a int) api.Ins { return api.Ins{Op: api.InsGuard, A: a} }

func choose(b int, to ...int) api.Ins { return api.Ins{Op: api.InsChoose, B: b, To: to} }

func store() api.Ins { return api.Ins{Op: api.InsStore} }

// at is the cell of that name on the sheet 0.
func at(name string) api.Cell {
	row, col, ok := place.Read(name)
	if !ok {
		panic(name + " is no cell")
	}
	return api.Cell{Row: row, Col: col}
}

// area is the one of that name on the sheet 0.
func area(name string) api.Area {
	top, left, bottom, right, ok := place.ReadArea(name)
	if !ok {
		panic(name + " is no area")
	}
	return api.Area{Top: top, Left: left, Bottom: bottom, Right: right}
}

// flat is the code of a formula in the sheet S of S and T.
func flat(t *testing.T, s string) []api.Ins {
	t.Helper()
	row, why, at := tree.Parse(s)
	if why != api.OK {
		t.Fatalf("Parse(%q): %d at %d", s, why, at)
	}
	l, why := code.Flatten(row, api.Cell{Row: 99}, "S", "T")
	if why != api.OK {
		t.Fatalf("Flatten(%q): %d", s, why)
	}
	return l
}

// begin is a new frame.
func begin(t *testing.T, l ...api.Ins) *Frame {
	t.Helper()
	f, why := New(l)
	if f == nil || why != api.OK {
		t.Fatalf("New(%v): %d", l, why)
	}
	return f
}

// back is a frame that stands so.
func back(t *testing.T, l []api.Ins, s api.Frame) *Frame {
	t.Helper()
	f, why := Back(l, s)
	if f == nil || why != api.OK {
		t.Fatalf("Back(%v, %+v): %d", l, s, why)
	}
	return f
}

// refused holds that Back refuses a state.
func refused(t *testing.T, l []api.Ins, s api.Frame, why api.Errno) {
	t.Helper()
	if f, got := Back(l, s); f != nil || got != why {
		t.Fatalf("Back(%v, %+v): %d, not %d", l, s, got, why)
	}
}

// same: are two states one? (nil and an empty list are.)
func same(a, b api.Frame) bool {
	return a.At == b.At && a.Steps == b.Steps && slices.Equal(a.Stack, b.Stack) && slices.Equal(a.Accs, b.Accs) && a.Scans == b.Scans && a.Done == b.Done
}

// standing holds a frame's state.
func standing(t *testing.T, f *Frame, want api.Frame) {
	t.Helper()
	if got := f.State(); !same(got, want) {
		t.Fatalf("the frame stands at %+v, not at %+v", got, want)
	}
}

// wants holds the cell that a frame wants.
func wants(t *testing.T, f *Frame, name string) {
	t.Helper()
	if c, ok := f.Wants(); !ok || c != at(name) {
		t.Fatalf("at %d it wants %v %t, not %s", f.at, c, ok, name)
	}
}

// wantsNone holds that it wants none.
func wantsNone(t *testing.T, f *Frame) {
	t.Helper()
	if c, ok := f.Wants(); ok || c != (api.Cell{}) {
		t.Fatalf("at %d it wants %v %t", f.at, c, ok)
	}
}

// step does steps with these values.
func step(t *testing.T, f *Frame, vs ...api.Value) {
	t.Helper()
	for _, v := range vs {
		if was := f.Steps(); !f.Step(v) || f.Steps() != was+1 {
			t.Fatalf("no step at %d", f.at)
		}
	}
}

// steps does so many steps that ask for no cell.
func steps(t *testing.T, f *Frame, many int) {
	t.Helper()
	for range many {
		wantsNone(t, f)
		step(t, f, txt("not asked for"))
	}
}

type cells map[string]api.Value

// ended runs a frame to its end with these cells, those of sheet 0, and tells what it came to and which it asked for. All others are Blank.
func ended(t *testing.T, f *Frame, v cells) (api.Value, []string) {
	t.Helper()
	var asked []string
	for !f.Done() {
		x := txt("not asked for")
		if c, ok := f.Wants(); ok {
			name := place.Name(c)
			asked, x = append(asked, name), v[name]
		}
		if r, ok := f.Result(); ok || r != blank {
			t.Fatal("a result ahead of the end:", r)
		}
		step(t, f, x)
	}
	r, ok := f.Result()
	if !ok {
		t.Fatal("no result at the end")
	}
	return r, asked
}

// comes holds what a code comes to, and the state at its end: all but one value is gone.
func comes(t *testing.T, l []api.Ins, v cells, want api.Value, steps int, asked ...string) {
	t.Helper()
	f := begin(t, l...)
	got, cells := ended(t, f, v)
	if got != want || f.Steps() != steps || !slices.Equal(cells, asked) {
		t.Fatalf("%v comes to %s in %d steps, asks for %v; not %s in %d, %v", l, shown(got), f.Steps(), cells, shown(want), steps, asked)
	}
	standing(t, f, api.Frame{At: len(l) - 1, Steps: steps, Stack: []api.Value{want}, Done: true})
}

func shown(v api.Value) string {
	if v.Kind == api.Text {
		return `"` + v.Text + `"`
	}
	return value.Show(v)
}

// unscanned holds that what is promoted of the span is as of the zero one.
func unscanned(t *testing.T, f *Frame) {
	t.Helper()
	if c, ok := f.Peek(); ok || c != (api.Cell{}) || f.Passed() != 0 || f.Left() != 0 {
		t.Fatalf("at %d: Peek %v %t, Passed %d, Left %d", f.at, c, ok, f.Passed(), f.Left())
	}
}

// scanning holds what is promoted of the span at a scan; an empty name: it has come to its end.
func scanning(t *testing.T, f *Frame, next string, passed, left int) {
	t.Helper()
	var want api.Cell
	if next != "" {
		want = at(next)
	}
	if c, ok := f.Peek(); ok != (next != "") || c != want || f.Passed() != passed || f.Left() != left {
		t.Fatalf("at %d: Peek %v %t, Passed %d, Left %d; not %s, %d, %d", f.at, c, ok, f.Passed(), f.Left(), next, passed, left)
	}
}

// stacked holds what is promoted of the stack: values from below.
func stacked(t *testing.T, f *Frame, want ...api.Value) {
	t.Helper()
	top, some := f.Top()
	if f.Depth() != len(want) || some != (len(want) > 0) || !slices.Equal(f.State().Stack, want) {
		t.Fatalf("Depth %d, Top %v %t of %v, not of %v", f.Depth(), top, some, f.State().Stack, want)
	}
	if some && top != want[len(want)-1] || !some && top != blank {
		t.Fatalf("Top is %v, of %v", top, want)
	}
}

// begun is the state of a fold that begins.
func begun(id int) api.Acc {
	a := api.Acc{Fn: id, Num: api.Num{N: 0, D: 1}}
	switch id {
	case api.FnProduct:
		a.Num.N = 1
	case api.FnConcat:
		a.V = txt("")
	}
	return a
}

func deepCopy(s api.Frame) api.Frame {
	s.Stack, s.Accs = slices.Clone(s.Stack), slices.Clone(s.Accs)
	return s
}

// equalLists holds that two lists of instructions are the same, their To too.
func equalLists(a, b []api.Ins) bool {
	return slices.EqualFunc(a, b, func(x, y api.Ins) bool {
		if len(x.To) == 0 && len(y.To) == 0 {
			x.To, y.To = nil, nil
		}
		return reflect.DeepEqual(x, y)
	})
}
