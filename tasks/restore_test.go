package tasks

import (
	"fmt"
	"math/rand"
	"slices"
	"testing"

	"whittle/api"
	"whittle/machine"
	"whittle/marks"
	"whittle/value"
)

// sample is a right state with something of all: constants, fresh and stale formulas, a cyclic one, viewports, frames.
func sample() api.State {
	return api.State{
		Sheets: []string{"S", "T", "U"}, Version: 7,
		Cells: []api.Held{
			{Cell: at("A1"), Text: "2", V: n(2), Ever: true, Version: 7},
			{Cell: at("B1"), Text: "=A1+A1", Stale: true, V: n(9), Ever: true, Version: 3},
			{Cell: at("C1"), Text: "=B1", Stale: true},
			{Cell: at("D1"), Text: "=D1", V: circle(), Ever: true, Version: 7},
			{Cell: at("A2"), Text: "'x", V: txt("x"), Ever: true, Version: 7},
			{Cell: at("B2"), Text: "=A1*3", V: n(6), Ever: true, Version: 7},
			{Cell: at("T!A1"), Text: "=SUM(S!A1:A9)", Stale: true, V: txt("old"), Ever: true, Version: 2},
			{Cell: at("T!B1"), Text: "=Z9", V: blank(), Ever: true, Version: 7},
			{Cell: at("U!A1"), Text: "=T!A1", Stale: true},
		},
		Views: [][]api.Area{areas("A1:D1 C9"), nil, areas("U!A1:IV65536")},
		Frames: []api.Flight{
			{On: true, Cell: at("B1"), Frame: api.Frame{At: 2, Steps: 2, Stack: []api.Value{n(2), n(2)}}},
			{On: true, Cell: at("T!A1"), Frame: api.Frame{At: 1, Steps: 4, Accs: []api.Acc{{Fn: api.FnSum, Num: api.Num{N: 2, D: 1}}}, Scans: 3}},
			{},
		},
	}
}

// other is the sample with a change, sharing none of its lists.
func other(change func(s *api.State)) api.State {
	s := sample()
	change(&s)
	return s
}

// wrong is a state that must be refused, with this error and no tasks.
func wrong(t *testing.T, what string, want api.Errno, s api.State) {
	t.Helper()
	if x, why := Restore(s); x != nil || why != want {
		t.Errorf("%s: Restore: %v, %d, want %d", what, x, why, want)
	}
}

func TestRestoreHolds(t *testing.T) { // Promise 16.9: tasks that hold just what the state says; nothing was aborted yet.
	s := sample()
	x := restored(t, s)
	for _, h := range s.Cells {
		if x.Text(h.Cell) != h.Text || x.Stale(h.Cell) != h.Stale || x.Value(h.Cell) != h.V {
			t.Errorf("%s: %q, %v, %v", names(h.Cell), x.Text(h.Cell), x.Stale(h.Cell), x.Value(h.Cell))
		}
	}
	for task := range 3 {
		if !slices.Equal(x.Areas(task), s.Views[task]) || !sameFlight(x.Flight(task), s.Frames[task]) {
			t.Error(x.Areas(task), x.Flight(task))
		}
	}
	parkedIs(t, x, 0, "B1", 2)
	parkedIs(t, x, 1, "T!A1", 4)
	parkedIs(t, x, 2, "", 0)
	nextIs(t, x, 2, "")
	abortedIs(t, x, "")
	if l := x.Last(); len(l.Stale)+len(l.Fresh) != 0 || x.Version() != 7 || x.Len() != 9 || x.Count() != 4 || !slices.Equal(x.Sheets(), s.Sheets) {
		t.Error(l, x.Version(), x.Count())
	}
}

func TestRestoreGoesOn(t *testing.T) { // Promise 16.9: such tasks go on under Tick, Trace, Edit and See.
	x := restored(t, sample())
	ticked(t, x, 0, 1, 1)
	parkedIs(t, x, 0, "B1", 3)
	ticked(t, x, 0, 99, 1+2)
	valueIs(t, x, "B1", n(4))
	valueIs(t, x, "C1", n(4))
	if s := shown(traced(t, x, 1, 99)); s != "A4= A5= A6= A7= A8= A9= . T!A1:=2" {
		t.Error(s)
	}
	ticked(t, x, 2, 99, 2)
	staleAre(t, x, "", "")
	valueIs(t, x, "U!A1", n(2))
	edited(t, x, "A1", "3")
	valueIs(t, x, "B2", n(6))
	valueIs(t, x, "T!A1", n(2))
	abortedIs(t, x, "")
	if x.Version() != 8 {
		t.Error(x.Version())
	}

	x = restored(t, sample())
	edited(t, x, "A5", "8")
	abortedIs(t, x, "T!A1")
	parkedIs(t, x, 0, "B1", 2)
	parkedIs(t, x, 1, "", 0)
	valueIs(t, x, "T!A1", txt("old"))
	edited(t, x, "A1", "", "D1", "=B1") // D1 was cyclic
	abortedIs(t, x, "B1")
	valueIs(t, x, "A1", blank())
	valueIs(t, x, "D1", circle())
	valueIs(t, x, "C1", blank())
	seen(t, x, 0, "B2")
	nextIs(t, x, 0, "B2")
	settle(t, x)
	valueIs(t, x, "D1", n(0))
	valueIs(t, x, "U!A1", n(8))
}

func TestRestoreReady(t *testing.T) { // Promises 16.5, 16.9: without frames the ready cells come as they are seen, by level and in their order.
	s := other(func(s *api.State) {
		s.Frames = make([]api.Flight, 3)
		s.Cells = slices.Insert(s.Cells, 6, api.Held{Cell: at("C2"), Text: "=B2", Stale: true}, api.Held{Cell: at("A3"), Text: "=1", Stale: true})
		s.Views[0] = areas("C2")
	})
	x := restored(t, s)
	wroteIs(t, x, 0, "C2 B1 A3 C1")
	wroteIs(t, x, 1, "T!A1")
	wroteIs(t, x, 2, "U!A1")
}

func TestRestoreRight(t *testing.T) { // Promise 16.9: what is not said to be refused is taken.
	for what, change := range map[string]func(s *api.State){
		"no contents at all": func(s *api.State) { s.Cells, s.Frames = nil, make([]api.Flight, 3) },
		"no viewports":       func(s *api.State) { s.Views = make([][]api.Area, 3) },
		"empty viewports":    func(s *api.State) { s.Views = [][]api.Area{{}, {}, {}} },
		"no frames":          func(s *api.State) { s.Frames = make([]api.Flight, 3) },
		"empty lists of a frame that is not on": func(s *api.State) {
			s.Frames[2].Frame.Stack, s.Frames[2].Frame.Accs = []api.Value{}, []api.Acc{}
		},
		"MaxSee areas":                       func(s *api.State) { s.Views[1] = eight(1) },
		"an area twice":                      func(s *api.State) { s.Views[1] = areas("T!A1 T!A1") },
		"another value of a fresh formula":   func(s *api.State) { s.Cells[5].V = txt("wrong") },
		"Blank of a fresh formula":           func(s *api.State) { s.Cells[5].V = blank() },
		"another value of a stale cell":      func(s *api.State) { s.Cells[1].V = bad(api.FaultArg) },
		"#CIRCLE! of a stale cell":           func(s *api.State) { s.Cells[1].V = circle() },
		"Blank of a stale cell that is Ever": func(s *api.State) { s.Cells[1].V = blank() },
		"a stale cell without Ever":          func(s *api.State) { s.Cells[1].V, s.Cells[1].Ever = blank(), false },
		"fresh cells without Ever": func(s *api.State) {
			for i := range s.Cells {
				s.Cells[i].Ever = s.Cells[i].Stale && s.Cells[i].Ever
			}
		},
		"versions that are not looked at": func(s *api.State) {
			for i := range s.Cells {
				s.Cells[i].Version = -5 * i
			}
		},
		"version 0":            func(s *api.State) { s.Version = 0 },
		"the greatest version": func(s *api.State) { s.Version = api.MaxNum },
		"a frame at MaxNum":    func(s *api.State) { s.Frames[0].Frame.Steps = api.MaxNum },
		"a frame at one step":  func(s *api.State) { s.Frames[0].Frame.Steps = 1 },
		"a frame that has read other values": func(s *api.State) {
			s.Frames[0].Frame.Stack = []api.Value{txt("a"), bad(api.FaultNA)}
		},
		"a frame ahead of its last step": func(s *api.State) {
			s.Frames[0].Frame = api.Frame{At: 3, Steps: 3, Stack: []api.Value{n(4)}}
		},
	} {
		s := other(change)
		x, why := Restore(s)
		if x == nil || why != api.OK {
			t.Errorf("%s: Restore: %d", what, why)
			continue
		}
		for _, h := range s.Cells {
			if x.Value(h.Cell) != h.V {
				t.Errorf("%s: %s tells %v", what, names(h.Cell), x.Value(h.Cell))
			}
		}
		for task := range 3 {
			if !slices.Equal(x.Areas(task), s.Views[task]) || !sameFlight(x.Flight(task), s.Frames[task]) {
				t.Errorf("%s: %v, %v", what, x.Areas(task), x.Flight(task))
			}
		}
		settle(t, x)
	}
}

func TestRestoreFreshWithoutEver(t *testing.T) { // Promises 16.2, 16.9: a fresh cell had its value with contents, whatever it says of Ever.
	x := restored(t, other(func(s *api.State) { s.Cells[0].Ever, s.Cells[5].Ever, s.Cells[3].Ever = false, false, false }))
	edited(t, x, "A1", "=4", "D1", "=A1")
	valueIs(t, x, "A1", n(2))
	valueIs(t, x, "B2", n(6))
	valueIs(t, x, "D1", circle())
	staleAre(t, x, "A1 B1 C1 D1 B2 T!A1 U!A1", "A1")
}

func TestRestoreOfMostSteps(t *testing.T) { // Promises 16.8, 16.9, R6: a frame restored at MaxNum steps goes on counting.
	x := restored(t, other(func(s *api.State) { s.Frames[0].Frame.Steps, s.Version = api.MaxNum, api.MaxNum }))
	ticked(t, x, 0, 1, 1)
	parkedIs(t, x, 0, "B1", api.MaxNum+1)
	wrong(t, "one step more", api.ErrState, stateOf(x))
	edited(t, x, "Z9", "1")
	if x.Version() != api.MaxNum+1 {
		t.Error(x.Version())
	}
	ticked(t, x, 0, 1, 1)
	valueIs(t, x, "B1", n(4))
}

func TestRestoreRefusedAsMarks(t *testing.T) { // Promise 16.9, R2: each error of marks.Restore, ahead of all else that is wrong.
	for want, lists := range wrongSheets() {
		for _, sheets := range lists {
			wrong(t, fmt.Sprint(sheets), want, other(func(s *api.State) { s.Sheets = sheets }))
			wrong(t, fmt.Sprint(sheets), want, api.State{Sheets: sheets, Version: -1, Cells: []api.Held{{V: api.Value{Kind: 9}}}, Frames: []api.Flight{{Cell: at("B1")}}})
		}
	}
	wrong(t, "nothing", api.ErrArg, api.State{})
	for what, change := range map[string]func(s *api.State){
		"a version below 0":             func(s *api.State) { s.Version = -1 },
		"a version too great":           func(s *api.State) { s.Version = api.MaxNum + 1 },
		"cells out of order":            func(s *api.State) { s.Cells[0], s.Cells[1] = s.Cells[1], s.Cells[0] },
		"a cell twice":                  func(s *api.State) { s.Cells = slices.Insert(s.Cells, 1, s.Cells[0]) },
		"a cell of no sheet":            func(s *api.State) { s.Cells[8].Cell.Sheet = 3 },
		"an empty text":                 func(s *api.State) { s.Cells[0].Text, s.Cells[0].V = "", blank() },
		"a formula that is none":        func(s *api.State) { s.Cells[5].Text = "=1+" },
		"a stale constant":              func(s *api.State) { s.Cells[0].Stale = true },
		"a stale cyclic formula":        func(s *api.State) { s.Cells[3].Stale = true },
		"a fresh one that uses a stale": func(s *api.State) { s.Cells[2].Stale = false },
	} {
		s := other(change)
		if _, why := marks.Restore(s); why != api.ErrState {
			t.Fatalf("%s: marks.Restore: %d", what, why)
		}
		wrong(t, what, api.ErrState, s)
	}
	full := other(func(s *api.State) {
		s.Cells, s.Frames = nil, make([]api.Flight, 3)
		for i := range api.MaxCells + 1 {
			s.Cells = append(s.Cells, api.Held{Cell: api.Cell{Row: i}, Text: "1", V: n(1), Ever: true, Version: 7})
		}
	})
	wrong(t, "too many cells", api.ErrState, full)
	full.Cells = full.Cells[1:]
	restored(t, full)
}

// wrongValues are values that are not right.
func wrongValues() []api.Value {
	return []api.Value{{Kind: 9}, {Kind: -1}, {Kind: api.Number}, {Kind: api.Number, Num: api.Num{N: 2, D: 4}}, {Kind: api.Number, Num: api.Num{N: api.MaxNum + 1, D: 1}}, {Kind: api.Text, Text: "a\n"}, {Kind: api.Text, Text: string(make([]byte, 300))}, {Kind: api.Fault}, {Kind: api.Fault, Fault: 9}, {Kind: api.Truth, Text: "x"}, {Kind: api.Blank, True: true}, {Kind: api.Fault, Fault: api.FaultCircle, True: true}}
}

func TestRestoreOfWrongValues(t *testing.T) { // Promise 16.9: a V that is not right, of whatever cell; another one than a constant's, a cyclic formula's, than Blank of a stale cell without Ever.
	for i := range sample().Cells {
		for _, v := range wrongValues() {
			wrong(t, fmt.Sprint("number ", i), api.ErrState, other(func(s *api.State) { s.Cells[i].V = v }))
		}
	}
	for i, l := range map[int][]api.Value{
		0: {n(3), blank(), txt("2"), circle()},
		4: {txt("'x"), blank(), txt("")},
		3: {blank(), n(1), bad(api.FaultRef), txt("#CIRCLE!")},
		2: {n(0), txt(""), circle(), truth(false)},
		8: {n(1)},
	} {
		for _, v := range l {
			wrong(t, fmt.Sprint("number ", i, v), api.ErrState, other(func(s *api.State) { s.Cells[i].V = v }))
		}
	}
	wrong(t, "no more Ever", api.ErrState, other(func(s *api.State) { s.Cells[1].Ever = false }))
	wrong(t, "a cyclic one that reaches a circle", api.ErrState, other(func(s *api.State) { s.Cells[5].Text = "=D1" }))
}

func TestRestoreOfWrongViews(t *testing.T) { // Promise 16.9: not as many Views as sheets; a View that See would refuse of that task.
	for what, change := range map[string]func(s *api.State){
		"none":                func(s *api.State) { s.Views = nil },
		"one too few":         func(s *api.State) { s.Views = s.Views[:2] },
		"one too many":        func(s *api.State) { s.Views = append(s.Views, nil) },
		"too many areas":      func(s *api.State) { s.Views[0] = append(eight(0), area("A1")) },
		"another task's area": func(s *api.State) { s.Views[0], s.Views[2] = s.Views[2], s.Views[0] },
		"one in the first":    func(s *api.State) { s.Views[1] = areas("T!A1 A1") },
		"the last one":        func(s *api.State) { s.Views[2] = areas("U!A1 U!A2 T!A1") },
	} {
		wrong(t, what, api.ErrState, other(change))
	}
	for _, a := range wrongAreas() {
		wrong(t, fmt.Sprint(a), api.ErrState, other(func(s *api.State) { s.Views[0] = append(areas("A1:B2"), a) }))
	}
}

func TestRestoreOfWrongFrames(t *testing.T) { // Promise 16.9: not as many Frames as sheets; with On: a cell that is not a ready one of that sheet, a frame that machine.Back refuses, that has done no step, or is done; without On: any other field.
	for what, change := range map[string]func(s *api.State){
		"none":                func(s *api.State) { s.Frames = nil },
		"one too few":         func(s *api.State) { s.Frames = s.Frames[:2] },
		"one too many":        func(s *api.State) { s.Frames = append(s.Frames, api.Flight{}) },
		"of a constant":       func(s *api.State) { s.Frames[0].Cell = at("A1") },
		"of an empty cell":    func(s *api.State) { s.Frames[0].Cell = at("Z9") },
		"of a fresh formula":  func(s *api.State) { s.Frames[0].Cell = at("B2") },
		"of a cyclic formula": func(s *api.State) { s.Frames[0].Cell = at("D1") },
		"of a stale one that waits": func(s *api.State) {
			s.Frames[0] = api.Flight{On: true, Cell: at("C1"), Frame: api.Frame{At: 1, Steps: 1, Stack: []api.Value{n(9)}}}
		},
		"of one that waits for another": func(s *api.State) {
			s.Frames[2] = api.Flight{On: true, Cell: at("U!A1"), Frame: api.Frame{At: 1, Steps: 1, Stack: []api.Value{n(9)}}}
		},
		"of another task's cell":    func(s *api.State) { s.Frames[2] = s.Frames[1] },
		"of two changed over":       func(s *api.State) { s.Frames[0], s.Frames[1] = s.Frames[1], s.Frames[0] },
		"of no cell":                func(s *api.State) { s.Frames[0].Cell.Row = -1 },
		"of no sheet's cell":        func(s *api.State) { s.Frames[0].Cell.Sheet = 3 },
		"At elsewhere":              func(s *api.State) { s.Frames[0].Frame.At = 1 },
		"At nowhere":                func(s *api.State) { s.Frames[0].Frame.At = 4 },
		"At below 0":                func(s *api.State) { s.Frames[0].Frame.At = -1 },
		"no step":                   func(s *api.State) { s.Frames[0].Frame.Steps = 0 },
		"no step, at its beginning": func(s *api.State) { s.Frames[0].Frame = api.Frame{} },
		"steps below 0":             func(s *api.State) { s.Frames[0].Frame.Steps = -2 },
		"too many steps":            func(s *api.State) { s.Frames[0].Frame.Steps = api.MaxNum + 1 },
		"done": func(s *api.State) {
			s.Frames[0].Frame = api.Frame{At: 3, Steps: 4, Stack: []api.Value{n(4)}, Done: true}
		},
		"done elsewhere":            func(s *api.State) { s.Frames[0].Frame.Done = true },
		"a value too many":          func(s *api.State) { s.Frames[0].Frame.Stack = append(s.Frames[0].Frame.Stack, n(1)) },
		"a value too few":           func(s *api.State) { s.Frames[0].Frame.Stack = s.Frames[0].Frame.Stack[:1] },
		"a value that is not right": func(s *api.State) { s.Frames[0].Frame.Stack[0] = api.Value{Kind: 7} },
		"a fold too many":           func(s *api.State) { s.Frames[0].Frame.Accs = s.Frames[1].Frame.Accs },
		"no fold":                   func(s *api.State) { s.Frames[1].Frame.Accs = nil },
		"another fold":              func(s *api.State) { s.Frames[1].Frame.Accs[0].Fn = api.FnMax },
		"a fold that is none":       func(s *api.State) { s.Frames[1].Frame.Accs[0].Num = api.Num{} },
		"all passed":                func(s *api.State) { s.Frames[1].Frame.Scans = 9 },
		"passed at no scan":         func(s *api.State) { s.Frames[0].Frame.Scans = 1 },
		"On taken off":              func(s *api.State) { s.Frames[0].On = false },
		"a cell, without On":        func(s *api.State) { s.Frames[2].Cell = at("U!A1") },
		"a row, without On":         func(s *api.State) { s.Frames[2].Cell = api.Cell{Row: 1} },
		"At, without On":            func(s *api.State) { s.Frames[2].Frame.At = 1 },
		"Steps, without On":         func(s *api.State) { s.Frames[2].Frame.Steps = 1 },
		"Stack, without On":         func(s *api.State) { s.Frames[2].Frame.Stack = []api.Value{{}} },
		"Accs, without On":          func(s *api.State) { s.Frames[2].Frame.Accs = []api.Acc{{}} },
		"Scans, without On":         func(s *api.State) { s.Frames[2].Frame.Scans = 1 },
		"Done, without On":          func(s *api.State) { s.Frames[2].Frame.Done = true },
	} {
		wrong(t, what, api.ErrState, other(change))
	}
}

func TestRestoreOfMuchWrong(t *testing.T) { // Promise 16.9, R2: several reasons at once; those of marks.Restore first.
	all := func(s *api.State) {
		s.Cells[0].V, s.Views, s.Frames = n(3), s.Views[:1], append(s.Frames, api.Flight{})
	}
	wrong(t, "all", api.ErrState, other(all))
	wrong(t, "sheets, too", api.ErrTwice, other(func(s *api.State) { all(s); s.Sheets[1] = "S" }))
	wrong(t, "sheets, too", api.ErrLatin, other(func(s *api.State) { all(s); s.Sheets[1] = "s 1" }))
	wrong(t, "fewer sheets", api.ErrState, other(func(s *api.State) { s.Sheets = s.Sheets[:2] }))
	wrong(t, "more sheets", api.ErrState, other(func(s *api.State) { s.Sheets = append(s.Sheets, "V") }))
}

func TestRestoreHandedIn(t *testing.T) { // R3, 16.9: a state is neither changed, spare room included, nor kept.
	s := sample()
	s.Sheets, _ = roomy(s.Sheets, "ROOM")
	s.Cells, _ = roomy(s.Cells, api.Held{Cell: at("U!B1"), Text: "=1", Stale: true})
	s.Views, _ = roomy(s.Views, areas("A1"))
	s.Views[0], _ = roomy(s.Views[0], area("D9"), area("D8"))
	s.Frames, _ = roomy(s.Frames, api.Flight{On: true})
	s.Frames[0].Frame.Stack, _ = roomy(s.Frames[0].Frame.Stack, n(77), n(78))
	s.Frames[1].Frame.Accs, _ = roomy(s.Frames[1].Frame.Accs, api.Acc{Fn: 99})
	was := fmt.Sprint(wide(s))
	x := restored(t, s)
	ahead := tellsAll(x)
	ticked(t, x, 0, 1, 1)
	ticked(t, x, 1, 1, 1)
	seen(t, x, 0, "B1 B2")
	edited(t, x, "Z9", "=A1")
	if fmt.Sprint(wide(s)) != was {
		t.Errorf("what was handed in is changed: %v, was %s", wide(s), was)
	}
	x = restored(t, s)
	fill(s.Frames[0].Frame.Stack, txt("OVER"))
	fill(s.Frames[1].Frame.Accs, api.Acc{Fn: 98})
	fill(s.Views[0], area("IV1"))
	fill(s.Views, areas("IV2"))
	fill(s.Frames, api.Flight{Cell: at("IV3")})
	fill(s.Cells, api.Held{Cell: at("IV4"), Text: "over", V: txt("over")})
	fill(s.Sheets, "OVER")
	if tellsAll(x) != ahead {
		t.Error("what was handed in is kept")
	}
	ticked(t, x, 0, 99, 4)
	ticked(t, x, 1, 99, 8)
	valueIs(t, x, "B1", n(4))
	valueIs(t, x, "T!A1", n(2))
}

// wide is a state whose lists are told with their spare room.
func wide(s api.State) api.State {
	s.Sheets, s.Cells, s.Views, s.Frames = s.Sheets[:cap(s.Sheets)], s.Cells[:cap(s.Cells)], slices.Clone(s.Views[:cap(s.Views)]), slices.Clone(s.Frames[:cap(s.Frames)])
	for i := range s.Views {
		s.Views[i] = s.Views[i][:cap(s.Views[i])]
	}
	for i := range s.Frames {
		f := &s.Frames[i].Frame
		f.Stack, f.Accs = f.Stack[:cap(f.Stack)], f.Accs[:cap(f.Accs)]
	}
	return s
}

// mayBe is 16.9 told once more: is a state one that Restore takes?
func mayBe(s api.State) bool {
	m, why := marks.Restore(s)
	if why != api.OK || len(s.Views) != len(s.Sheets) || len(s.Frames) != len(s.Sheets) {
		return false
	}
	for _, h := range s.Cells {
		v := h.V
		switch {
		case !value.Right(v), !h.Stale && m.Kind(h.Cell) == api.Constant && v != value.Read(h.Text), !h.Stale && m.Cyclic(h.Cell) && v != circle(), h.Stale && !h.Ever && v != blank():
			return false
		}
	}
	for task := range s.Sheets {
		x, _ := New(s.Sheets...)
		if x.See(task, s.Views[task]...) != api.OK {
			return false
		}
		f := s.Frames[task]
		if !f.On {
			if !sameFlight(f, api.Flight{}) {
				return false
			}
			continue
		}
		_, why := machine.Back(m.Code(f.Cell), f.Frame)
		if f.Cell.Sheet != task || !m.Ready(f.Cell) || why != api.OK || f.Frame.Steps == 0 || f.Frame.Done {
			return false
		}
	}
	return true
}

// bend turns something small of a state, which may be wrong then or not.
func bend(r *rand.Rand, s *api.State) {
	task := r.Intn(len(s.Frames))
	f := &s.Frames[task]
	switch k := r.Intn(12); {
	case k == 0:
		f.On = !f.On
	case k == 1:
		f.Cell = randomCell(r)
	case k == 2:
		f.Frame.At += r.Intn(3) - 1
	case k == 3:
		f.Frame.Steps += r.Intn(3) - 1
	case k == 4:
		f.Frame.Scans += r.Intn(3) - 1
	case k == 5:
		f.Frame.Stack = append(f.Frame.Stack, n(1))
	case k == 6:
		s.Views[task] = randomViews(r, task)
	case k == 7:
		s.Frames[task] = s.Frames[r.Intn(3)]
	case len(s.Cells) == 0:
		s.Version = r.Intn(3) - 1
	case k == 8:
		s.Cells[r.Intn(len(s.Cells))].V = []api.Value{n(1), blank(), circle(), txt("x"), {Kind: 9}}[r.Intn(5)]
	case k == 9:
		h := &s.Cells[r.Intn(len(s.Cells))]
		h.Ever = !h.Ever
	case k == 10:
		h := &s.Cells[r.Intn(len(s.Cells))]
		h.Stale = !h.Stale
	case k == 11:
		s.Cells[r.Intn(len(s.Cells))].Text = randomText(r)
	}
}

func TestLawRestoreRefuses(t *testing.T) { // Promise 16.9: of states that are bent a little just those are taken that the chapter's words take; and those go on without a hitch.
	r := rand.New(rand.NewSource(1612))
	takes, refuses := 0, 0
	for range 60 {
		x, want := opened(t), newModel()
		for range 5 + r.Intn(25) {
			play(t, r, x, want)
		}
		for range 40 {
			s := want.state()
			bend(r, &s)
			got, why := Restore(s)
			if !mayBe(s) {
				refuses++
				if _, too := marks.Restore(s); got != nil || why != api.ErrState || too != api.OK && too != why {
					t.Fatalf("Restore(%.900q): %d", fmt.Sprint(s), why)
				}
				continue
			}
			takes++
			if got == nil || why != api.OK {
				t.Fatalf("Restore(%.900q): %d", fmt.Sprint(s), why)
			}
			for _, h := range s.Cells {
				if got.Value(h.Cell) != h.V || got.Stale(h.Cell) != h.Stale {
					t.Fatalf("%s tells %v, %v", names(h.Cell), got.Value(h.Cell), got.Stale(h.Cell))
				}
			}
			for task := range s.Sheets {
				if !sameFlight(got.Flight(task), s.Frames[task]) || !slices.Equal(got.Areas(task), s.Views[task]) {
					t.Fatal(got.Flight(task), got.Areas(task))
				}
			}
			settle(t, got)
		}
	}
	if takes < 300 || refuses < 300 {
		t.Error(takes, refuses)
	}
}
