package view

import (
	"fmt"
	"math/rand"
	"slices"
	"testing"

	"whittle/api"
	"whittle/tasks"
)

// sample is a right state with something of all: constants, fresh and stale formulas, a cyclic one, viewports, frames.
func sample() api.State {
	return api.State{
		Sheets: []string{"S", "T", "U"}, Version: 7,
		Cells: []api.Held{
			{Cell: at("A1"), Text: "2", V: n(2), Ever: true, Version: 7},
			{Cell: at("B1"), Text: "=A1+A1", Stale: true, V: n(9), Ever: true, Version: 3},
			{Cell: at("C1"), Text: "=B1", Stale: true},
			{Cell: at("D1"), Text: "=D1", V: circle(), Ever: true, Version: 7},
			{Cell: at("A2"), Text: "'x", V: txt("x"), Ever: true, Version: 7},
			{Cell: at("B2"), Text: "=A1*3", V: n(6), Ever: true, Version: 7},
			{Cell: at("T!A1"), Text: "=SUM(S!A1:A9)", Stale: true, V: txt("old"), Ever: true, Version: 2},
			{Cell: at("T!B1"), Text: "=Z9", V: blank(), Ever: true, Version: 7},
			{Cell: at("U!A1"), Text: "=T!A1", Stale: true},
		},
		Views: [][]api.Area{areas("A1:D1 C9"), nil, areas("U!A1:IV65536")},
		Frames: []api.Flight{
			{On: true, Cell: at("B1"), Frame: api.Frame{At: 2, Steps: 2, Stack: []api.Value{n(2), n(2)}}},
			{On: true, Cell: at("T!A1"), Frame: api.Frame{At: 1, Steps: 4, Accs: []api.Acc{{Fn: api.FnSum, Num: api.Num{N: 2, D: 1}}}, Scans: 3}},
			{},
		},
	}
}

// other is the sample with a change, sharing none of its lists.
func other(change func(s *api.State)) api.State {
	s := sample()
	change(&s)
	return s
}

// wrong is a state that must be refused, with this error and no view.
func wrong(t *testing.T, what string, want api.Errno, s api.State) {
	t.Helper()
	if x, why := Restore(s); x != nil || why != want {
		t.Errorf("%s: Restore: %v, %d, want %d", what, x, why, want)
	}
}

// eight are areas of a sheet, as many as one viewport may have.
func eight(sheet int) []api.Area {
	var l []api.Area
	for i := range api.MaxSee {
		l = append(l, api.Area{Sheet: sheet, Top: i, Left: i, Bottom: 2 * i, Right: i})
	}
	return l
}

// wrongAreas are such as no viewport of the task 0 may have.
func wrongAreas() []api.Area {
	const least, most = -1 << 63, 1<<63 - 1
	l := []api.Area{{Sheet: 1}, {Sheet: 2, Bottom: 9, Right: 9}, {Sheet: 3}, {Sheet: api.MaxSheets}, {Sheet: -1}, {Sheet: most}, {Sheet: least}}
	for _, k := range []int{-1, least} {
		l = append(l, api.Area{Top: k}, api.Area{Left: k}, api.Area{Bottom: k}, api.Area{Right: k})
	}
	for _, k := range []int{api.MaxRows, most} {
		l = append(l, api.Area{Bottom: k}, api.Area{Top: k, Bottom: k})
	}
	for _, k := range []int{api.MaxCols, most} {
		l = append(l, api.Area{Right: k}, api.Area{Left: k, Right: k})
	}
	return append(l, api.Area{Top: 2, Bottom: 1}, api.Area{Left: 2, Right: 1})
}

func TestRestoreTells(t *testing.T) { // Promise 17.5: a view that tells just what the state says; its Last and Aborted tell nothing.
	x := restored(t, sample())
	if got := x.State(); !sameState(got, sample()) {
		t.Errorf("State: %v", got)
	}
	reads(t, x, "A1", fresh(n(2), 7))
	reads(t, x, "B1", old(n(9), 3))
	reads(t, x, "C1", never())
	reads(t, x, "D1", fresh(circle(), 7))
	reads(t, x, "A2", fresh(txt("x"), 7))
	reads(t, x, "B2", fresh(n(6), 7))
	reads(t, x, "T!A1", old(txt("old"), 2))
	reads(t, x, "T!B1", fresh(blank(), 7))
	reads(t, x, "U!A1", never())
	reads(t, x, "Z9", vacant(7))
	shows(t, x, 0, "A1 B1 C1 D1")
	shows(t, x, 1, "")
	shows(t, x, 2, "U!A1")
	idleIs(t, x, false)
	abortedIs(t, x, "")
	parkedIs(t, x, 0, "B1", 2)
	parkedIs(t, x, 1, "T!A1", 4)
	if l := x.Last(); len(l.Stale)+len(l.Fresh) != 0 || x.Version() != 7 || x.Count() != 4 {
		t.Error(l, x.Version(), x.Count())
	}
}

func TestRestoreGoesOn(t *testing.T) { // Promise 17.7: such a view goes on under Tick, Trace, Edit and See, and tells the versions that the state said.
	x := restored(t, sample())
	edited(t, x, "Z9", "1") // which no formula but none reaches
	reads(t, x, "B1", old(n(9), 3))
	reads(t, x, "C1", never())
	reads(t, x, "T!A1", old(txt("old"), 2))
	reads(t, x, "A1", fresh(n(2), 8))
	reads(t, x, "B2", fresh(n(6), 8))
	edited(t, x, "A1", "5", "D1", "=A1") // B2 and D1 were fresh
	abortedIs(t, x, "B1 T!A1")
	reads(t, x, "B1", old(n(9), 3))
	reads(t, x, "B2", old(n(6), 8))
	reads(t, x, "D1", old(circle(), 8))
	reads(t, x, "T!A1", old(txt("old"), 2))
	ticked(t, x, 0, 4+2, 4+2)
	reads(t, x, "B1", fresh(n(10), 9))
	reads(t, x, "D1", fresh(n(5), 9))
	reads(t, x, "C1", never())
	settle(t, x)
	reads(t, x, "C1", fresh(n(10), 9))
	reads(t, x, "T!A1", fresh(n(5), 9))
	reads(t, x, "U!A1", fresh(n(5), 9))
	seen(t, x, 1, "T!A1")
	shows(t, x, 1, "T!A1")
	edited(t, x, "C1", "")
	edited(t, x, "C1", "=1")
	reads(t, x, "C1", never())

	x = restored(t, sample())
	ticked(t, x, 0, 99, 2+2)
	reads(t, x, "B1", fresh(n(4), 7))
	edited(t, x, "A1", "1")
	reads(t, x, "B1", old(n(4), 7))
	reads(t, x, "C1", old(n(4), 7))
}

func TestRestoreRight(t *testing.T) { // Promise 17.5: what is not said to be refused is taken.
	for what, change := range map[string]func(s *api.State){
		"no contents at all":                 func(s *api.State) { s.Cells, s.Frames = nil, make([]api.Flight, 3) },
		"no viewports":                       func(s *api.State) { s.Views = make([][]api.Area, 3) },
		"empty viewports":                    func(s *api.State) { s.Views = [][]api.Area{{}, {}, {}} },
		"no frames":                          func(s *api.State) { s.Frames = make([]api.Flight, 3) },
		"MaxSee areas":                       func(s *api.State) { s.Views[1] = eight(1) },
		"another value of a fresh formula":   func(s *api.State) { s.Cells[5].V = txt("wrong") },
		"Blank of a fresh formula":           func(s *api.State) { s.Cells[5].V = blank() },
		"another value of a stale cell":      func(s *api.State) { s.Cells[1].V = bad(api.FaultArg) },
		"Blank of a stale cell that is Ever": func(s *api.State) { s.Cells[1].V = blank() },
		"Ever of version 0":                  func(s *api.State) { s.Cells[1].Version = 0 },
		"Ever of the version ahead":          func(s *api.State) { s.Cells[1].Version = 6 },
		"Ever, that was not":                 func(s *api.State) { s.Cells[2].Ever = true },
		"neither":                            func(s *api.State) { s.Cells[1].V, s.Cells[1].Ever, s.Cells[1].Version = blank(), false, 0 },
		"a frame at MaxNum":                  func(s *api.State) { s.Frames[0].Frame.Steps = api.MaxNum },
		"the greatest version": func(s *api.State) {
			s.Version = api.MaxNum
			for i := range s.Cells {
				if !s.Cells[i].Stale {
					s.Cells[i].Version = api.MaxNum
				}
			}
			s.Cells[1].Version = api.MaxNum - 1
		},
		"version 0": func(s *api.State) {
			*s = api.State{Sheets: s.Sheets, Cells: []api.Held{{Cell: at("A1"), Text: "2", V: n(2), Ever: true}, {Cell: at("B1"), Text: "=1", Stale: true}}, Views: s.Views, Frames: make([]api.Flight, 3)}
		},
	} {
		s := other(change)
		x, why := Restore(s)
		if x == nil || why != api.OK {
			t.Errorf("%s: Restore: %d", what, why)
			continue
		}
		if got := x.State(); !sameState(got, s) {
			t.Errorf("%s: State: %v, want %v", what, got, s)
		}
		settle(t, x)
	}
}

func TestRestoreOfMost(t *testing.T) { // Promise 17.7, R6: behind MaxNum edits, or steps, a view goes on; its state is refused then.
	x := restored(t, other(func(s *api.State) { s.Frames[0].Frame.Steps = api.MaxNum }))
	ticked(t, x, 0, 1, 1)
	wrong(t, "one step more", api.ErrState, x.State())
	s := api.State{Sheets: []string{"S", "T", "U"}, Version: api.MaxNum, Cells: []api.Held{{Cell: at("A1"), Text: "=1", V: n(1), Ever: true, Version: api.MaxNum}}, Views: make([][]api.Area, 3), Frames: make([]api.Flight, 3)}
	x = restored(t, s)
	edited(t, x, "A1", "=2")
	reads(t, x, "A1", old(n(1), api.MaxNum))
	wrong(t, "one edit more", api.ErrState, x.State())
	ticked(t, x, 0, 2, 2)
	reads(t, x, "A1", fresh(n(2), api.MaxNum+1))
}

func TestRestoreRefusedAsTasks(t *testing.T) { // Promise 17.5, R2: each error of tasks.Restore, ahead of what this layer asks.
	odd := func(s *api.State) { s.Cells[0].Ever, s.Cells[1].Version, s.Cells[5].Version = false, 99, -1 }
	for want, lists := range wrongSheets() {
		for _, sheets := range lists {
			wrong(t, fmt.Sprint(sheets), want, other(func(s *api.State) { s.Sheets = sheets }))
			wrong(t, fmt.Sprint(sheets), want, other(func(s *api.State) { s.Sheets = sheets; odd(s) }))
		}
	}
	wrong(t, "nothing", api.ErrArg, api.State{})
	for what, change := range map[string]func(s *api.State){
		"a version below 0":             func(s *api.State) { s.Version = -1 },
		"a version too great":           func(s *api.State) { s.Version = api.MaxNum + 1 },
		"cells out of order":            func(s *api.State) { s.Cells[0], s.Cells[1] = s.Cells[1], s.Cells[0] },
		"a cell twice":                  func(s *api.State) { s.Cells = slices.Insert(s.Cells, 1, s.Cells[0]) },
		"a cell of no sheet":            func(s *api.State) { s.Cells[8].Cell.Sheet = 3 },
		"an empty text":                 func(s *api.State) { s.Cells[0].Text, s.Cells[0].V = "", blank() },
		"a formula that is none":        func(s *api.State) { s.Cells[5].Text = "=1+" },
		"a stale constant":              func(s *api.State) { s.Cells[0].Stale, s.Cells[0].Version = true, 3 },
		"a stale cyclic formula":        func(s *api.State) { s.Cells[3].Stale, s.Cells[3].Version = true, 3 },
		"a fresh one that uses a stale": func(s *api.State) { s.Cells[2] = api.Held{Cell: at("C1"), Text: "=B1", Ever: true, Version: 7} },
		"fewer sheets":                  func(s *api.State) { s.Sheets = s.Sheets[:2] },
		"more sheets":                   func(s *api.State) { s.Sheets = append(s.Sheets, "V") },
		"another constant":              func(s *api.State) { s.Cells[0].V = n(3) },
		"another value than #CIRCLE!":   func(s *api.State) { s.Cells[3].V = n(3) },
		"a value of a never fresh one":  func(s *api.State) { s.Cells[2].V = n(3) },
	} {
		s := other(change)
		if _, why := tasks.Restore(s); why != api.ErrState {
			t.Fatalf("%s: tasks.Restore: %d", what, why)
		}
		wrong(t, what, api.ErrState, s)
		odd(&s)
		wrong(t, what+", and much else", api.ErrState, s)
	}
	for i := range sample().Cells {
		for _, v := range wrongValues() {
			wrong(t, fmt.Sprint("number ", i), api.ErrState, other(func(s *api.State) { s.Cells[i].V = v }))
		}
	}
}

func TestRestoreFull(t *testing.T) { // Promise 17.5: as many cells as a book may hold, and one more.
	full := other(func(s *api.State) {
		s.Cells, s.Frames = nil, make([]api.Flight, 3)
		for i := range api.MaxCells + 1 {
			s.Cells = append(s.Cells, api.Held{Cell: api.Cell{Row: i}, Text: "=1", Stale: true, Ever: true, V: n(i), Version: i % 7})
		}
	})
	wrong(t, "too many cells", api.ErrState, full)
	full.Cells = full.Cells[1:]
	x := restored(t, full)
	if !sameState(x.State(), full) {
		t.Error("another state")
	}
	reads(t, x, "A1000", old(n(999), 999%7))
}

func TestRestoreOfWrongVersions(t *testing.T) { // Promise 17.5: a fresh cell says Ever, and the state's version; a stale one Ever and a version from 0 to one less, or neither.
	const least, most = -1 << 63, 1<<63 - 1
	for i, h := range sample().Cells {
		what := fmt.Sprint("number ", i)
		versions := []int{-1, 8, least, most, api.MaxNum}
		switch {
		case !h.Stale:
			wrong(t, what+" without Ever", api.ErrState, other(func(s *api.State) { s.Cells[i].Ever = false }))
			wrong(t, what+" without Ever and version", api.ErrState, other(func(s *api.State) { s.Cells[i].Ever, s.Cells[i].Version = false, 0 }))
			versions = append(versions, 0, 6)
		case h.Ever:
			wrong(t, what+" without Ever", api.ErrState, other(func(s *api.State) { s.Cells[i].Ever = false }))
			wrong(t, what+" without Ever and value", api.ErrState, other(func(s *api.State) { s.Cells[i].Ever, s.Cells[i].V = false, blank() }))
			wrong(t, what+" without Ever and version", api.ErrState, other(func(s *api.State) { s.Cells[i].Ever, s.Cells[i].Version = false, 0 }))
			versions = append(versions, 7)
		default:
			versions = append(versions, 1, 6, 7)
		}
		for _, version := range versions {
			wrong(t, fmt.Sprint(what, " of version ", version), api.ErrState, other(func(s *api.State) { s.Cells[i].Version = version }))
		}
	}
	wrong(t, "the state's version", api.ErrState, other(func(s *api.State) { s.Version = 8 }))
	wrong(t, "the state's version", api.ErrState, other(func(s *api.State) { s.Version = 6 }))
	wrong(t, "Ever ahead of all edits", api.ErrState, api.State{Sheets: []string{"S"}, Cells: []api.Held{{Cell: at("A1"), Text: "=1", Stale: true, Ever: true}}, Views: make([][]api.Area, 1), Frames: make([]api.Flight, 1)})
}

// wrongValues are values that are not right.
func wrongValues() []api.Value {
	return []api.Value{{Kind: 9}, {Kind: -1}, {Kind: api.Number}, {Kind: api.Number, Num: api.Num{N: 2, D: 4}}, {Kind: api.Number, Num: api.Num{N: api.MaxNum + 1, D: 1}}, {Kind: api.Text, Text: "a\n"}, {Kind: api.Text, Text: string(make([]byte, 300))}, {Kind: api.Fault}, {Kind: api.Fault, Fault: 9}, {Kind: api.Truth, Text: "x"}, {Kind: api.Blank, True: true}, {Kind: api.Fault, Fault: api.FaultCircle, True: true}}
}

func TestRestoreOfWrongViews(t *testing.T) { // Promises 16.9, 17.5: not as many Views as sheets; a View that See would refuse of that task.
	for what, change := range map[string]func(s *api.State){
		"none":                func(s *api.State) { s.Views = nil },
		"one too few":         func(s *api.State) { s.Views = s.Views[:2] },
		"one too many":        func(s *api.State) { s.Views = append(s.Views, nil) },
		"too many areas":      func(s *api.State) { s.Views[0] = append(eight(0), area("A1")) },
		"another task's area": func(s *api.State) { s.Views[0], s.Views[2] = s.Views[2], s.Views[0] },
		"one in the first":    func(s *api.State) { s.Views[1] = areas("T!A1 A1") },
		"the last one":        func(s *api.State) { s.Views[2] = areas("U!A1 U!A2 T!A1") },
	} {
		wrong(t, what, api.ErrState, other(change))
	}
	for _, a := range wrongAreas() {
		wrong(t, fmt.Sprint(a), api.ErrState, other(func(s *api.State) { s.Views[0] = append(areas("A1:B2"), a) }))
	}
}

func TestRestoreOfWrongFrames(t *testing.T) { // Promises 16.9, 17.5: not as many Frames as sheets; with On: a cell that is not a ready one of that sheet, a frame that machine.Back refuses, that has done no step, or is done; without On: any other field.
	for what, change := range map[string]func(s *api.State){
		"none":                func(s *api.State) { s.Frames = nil },
		"one too few":         func(s *api.State) { s.Frames = s.Frames[:2] },
		"one too many":        func(s *api.State) { s.Frames = append(s.Frames, api.Flight{}) },
		"of a constant":       func(s *api.State) { s.Frames[0].Cell = at("A1") },
		"of an empty cell":    func(s *api.State) { s.Frames[0].Cell = at("Z9") },
		"of a fresh formula":  func(s *api.State) { s.Frames[0].Cell = at("B2") },
		"of a cyclic formula": func(s *api.State) { s.Frames[0].Cell = at("D1") },
		"of a stale one that waits": func(s *api.State) {
			s.Frames[0] = api.Flight{On: true, Cell: at("C1"), Frame: api.Frame{At: 1, Steps: 1, Stack: []api.Value{n(9)}}}
		},
		"of one that waits for another": func(s *api.State) {
			s.Frames[2] = api.Flight{On: true, Cell: at("U!A1"), Frame: api.Frame{At: 1, Steps: 1, Stack: []api.Value{n(9)}}}
		},
		"of another task's cell":    func(s *api.State) { s.Frames[2] = s.Frames[1] },
		"of two changed over":       func(s *api.State) { s.Frames[0], s.Frames[1] = s.Frames[1], s.Frames[0] },
		"of no cell":                func(s *api.State) { s.Frames[0].Cell.Row = -1 },
		"of no sheet's cell":        func(s *api.State) { s.Frames[0].Cell.Sheet = 3 },
		"At elsewhere":              func(s *api.State) { s.Frames[0].Frame.At = 1 },
		"At nowhere":                func(s *api.State) { s.Frames[0].Frame.At = 4 },
		"At below 0":                func(s *api.State) { s.Frames[0].Frame.At = -1 },
		"no step":                   func(s *api.State) { s.Frames[0].Frame.Steps = 0 },
		"no step, at its beginning": func(s *api.State) { s.Frames[0].Frame = api.Frame{} },
		"steps below 0":             func(s *api.State) { s.Frames[0].Frame.Steps = -2 },
		"too many steps":            func(s *api.State) { s.Frames[0].Frame.Steps = api.MaxNum + 1 },
		"done": func(s *api.State) {
			s.Frames[0].Frame = api.Frame{At: 3, Steps: 4, Stack: []api.Value{n(4)}, Done: true}
		},
		"done elsewhere":            func(s *api.State) { s.Frames[0].Frame.Done = true },
		"a value too many":          func(s *api.State) { s.Frames[0].Frame.Stack = append(s.Frames[0].Frame.Stack, n(1)) },
		"a value too few":           func(s *api.State) { s.Frames[0].Frame.Stack = s.Frames[0].Frame.Stack[:1] },
		"a value that is not right": func(s *api.State) { s.Frames[0].Frame.Stack[0] = api.Value{Kind: 7} },
		"a fold too many":           func(s *api.State) { s.Frames[0].Frame.Accs = s.Frames[1].Frame.Accs },
		"no fold":                   func(s *api.State) { s.Frames[1].Frame.Accs = nil },
		"another fold":              func(s *api.State) { s.Frames[1].Frame.Accs[0].Fn = api.FnMax },
		"a fold that is none":       func(s *api.State) { s.Frames[1].Frame.Accs[0].Num = api.Num{} },
		"all passed":                func(s *api.State) { s.Frames[1].Frame.Scans = 9 },
		"passed at no scan":         func(s *api.State) { s.Frames[0].Frame.Scans = 1 },
		"On taken off":              func(s *api.State) { s.Frames[0].On = false },
		"a cell, without On":        func(s *api.State) { s.Frames[2].Cell = at("U!A1") },
		"a row, without On":         func(s *api.State) { s.Frames[2].Cell = api.Cell{Row: 1} },
		"At, without On":            func(s *api.State) { s.Frames[2].Frame.At = 1 },
		"Steps, without On":         func(s *api.State) { s.Frames[2].Frame.Steps = 1 },
		"Stack, without On":         func(s *api.State) { s.Frames[2].Frame.Stack = []api.Value{{}} },
		"Accs, without On":          func(s *api.State) { s.Frames[2].Frame.Accs = []api.Acc{{}} },
		"Scans, without On":         func(s *api.State) { s.Frames[2].Frame.Scans = 1 },
		"Done, without On":          func(s *api.State) { s.Frames[2].Frame.Done = true },
	} {
		wrong(t, what, api.ErrState, other(change))
	}
}

func TestRestoreOfMuchWrong(t *testing.T) { // Promise 17.5, R2: several reasons at once.
	all := func(s *api.State) {
		s.Cells[0].V, s.Cells[4].Ever, s.Views, s.Frames = n(3), false, s.Views[:1], append(s.Frames, api.Flight{})
	}
	wrong(t, "all", api.ErrState, other(all))
	wrong(t, "sheets, too", api.ErrTwice, other(func(s *api.State) { all(s); s.Sheets[1] = "S" }))
	wrong(t, "sheets, too", api.ErrLatin, other(func(s *api.State) { all(s); s.Sheets[1] = "s 1" }))
	wrong(t, "two of this layer", api.ErrState, other(func(s *api.State) { s.Cells[0].Version, s.Cells[8].Version = 3, 3 }))
}

func TestRestoreHandedIn(t *testing.T) { // R3, 17.5: a state is neither changed, spare room included, nor kept.
	s := sample()
	s.Sheets, _ = roomy(s.Sheets, "ROOM")
	s.Cells, _ = roomy(s.Cells, api.Held{Cell: at("U!B1"), Text: "=1", Stale: true})
	s.Views, _ = roomy(s.Views, areas("A1"))
	s.Views[0], _ = roomy(s.Views[0], area("D9"), area("D8"))
	s.Frames, _ = roomy(s.Frames, api.Flight{On: true})
	s.Frames[0].Frame.Stack, _ = roomy(s.Frames[0].Frame.Stack, n(77), n(78))
	s.Frames[1].Frame.Accs, _ = roomy(s.Frames[1].Frame.Accs, api.Acc{Fn: 99})
	was := fmt.Sprint(wide(s))
	x := restored(t, s)
	ahead := tellsAll(x)
	ticked(t, x, 0, 1, 1)
	ticked(t, x, 1, 1, 1)
	seen(t, x, 0, "B1 B2")
	edited(t, x, "Z9", "=A1")
	if fmt.Sprint(wide(s)) != was {
		t.Errorf("what was handed in is changed: %v, was %s", wide(s), was)
	}
	x = restored(t, s)
	overwrite(s)
	if tellsAll(x) != ahead || !sameState(x.State(), sample()) {
		t.Error("what was handed in is kept")
	}
	ticked(t, x, 0, 99, 4)
	ticked(t, x, 1, 99, 8)
	reads(t, x, "B1", fresh(n(4), 7))
	reads(t, x, "T!A1", fresh(n(2), 7))
}

// overwrite writes over all lists of a state, their spare room too.
func overwrite(s api.State) {
	for _, f := range s.Frames {
		fill(f.Frame.Stack, txt("OVER"))
		fill(f.Frame.Accs, api.Acc{Fn: 98})
	}
	for _, l := range s.Views {
		fill(l, area("IV1"))
	}
	fill(s.Views, areas("IV2"))
	fill(s.Frames, api.Flight{Cell: at("IV3")})
	fill(s.Cells, api.Held{Cell: at("IV4"), Text: "over", V: txt("over")})
	fill(s.Sheets, "OVER")
}

// wide is a state whose lists are told with their spare room.
func wide(s api.State) api.State {
	s.Sheets, s.Cells, s.Views, s.Frames = s.Sheets[:cap(s.Sheets)], s.Cells[:cap(s.Cells)], slices.Clone(s.Views[:cap(s.Views)]), slices.Clone(s.Frames[:cap(s.Frames)])
	for i := range s.Views {
		s.Views[i] = s.Views[i][:cap(s.Views[i])]
	}
	for i := range s.Frames {
		f := &s.Frames[i].Frame
		f.Stack, f.Accs = f.Stack[:cap(f.Stack)], f.Accs[:cap(f.Accs)]
	}
	return s
}

// mayBe is 17.5 told once more: is a state one that Restore takes?
func mayBe(s api.State) bool {
	if _, why := tasks.Restore(s); why != api.OK {
		return false
	}
	for _, h := range s.Cells {
		was := h.Ever && slices.Contains(versionsAhead(s.Version), h.Version)
		none := !h.Ever && h.Version == 0 && h.V == blank()
		is := h.Ever && h.Version == s.Version
		if h.Stale && !was && !none || !h.Stale && !is {
			return false
		}
	}
	return true
}

// versionsAhead are those of a version, from 0 on.
func versionsAhead(version int) []int {
	var l []int
	for k := range version {
		l = append(l, k)
	}
	return l
}

// bend turns something small of a state, which may be wrong then or not.
func bend(r *rand.Rand, s *api.State) {
	task := r.Intn(len(s.Frames))
	f := &s.Frames[task]
	h := &api.Held{}
	if len(s.Cells) > 0 {
		h = &s.Cells[r.Intn(len(s.Cells))]
	}
	switch r.Intn(11) {
	case 0:
		f.On = !f.On
	case 1:
		f.Frame.At += r.Intn(3) - 1
	case 2:
		s.Views[task] = randomViews(r, task)
	case 3:
		s.Version += r.Intn(5) - 2
	case 4:
		h.V = []api.Value{n(1), blank(), circle(), txt("x"), {Kind: 9}}[r.Intn(5)]
	case 5:
		h.Ever = !h.Ever
	case 6, 7, 8:
		h.Version += r.Intn(5) - 2
	case 9:
		h.Stale = !h.Stale
	case 10:
		h.Ever, h.Version, h.V = !h.Ever, r.Intn(2), blank()
	}
}

func TestLawRestoreRefuses(t *testing.T) { // Promise 17.5: of states that are bent a little just those are taken that the chapter's words take; and those tell what the state says, and go on without a hitch.
	r := rand.New(rand.NewSource(1701))
	takes, refuses := 0, 0
	for range 60 {
		x, want := opened(t), newModel()
		for range 5 + r.Intn(25) {
			play(t, r, x, want)
		}
		for range 40 {
			s := want.state()
			bend(r, &s)
			got, why := Restore(s)
			if !mayBe(s) {
				refuses++
				if _, too := tasks.Restore(s); got != nil || why != api.ErrState || too != api.OK && too != why {
					t.Fatalf("Restore(%.900q): %d", fmt.Sprint(s), why)
				}
				continue
			}
			takes++
			if got == nil || why != api.OK || !sameState(got.State(), s) {
				t.Fatalf("Restore(%.900q): %d", fmt.Sprint(s), why)
			}
			settle(t, got)
		}
	}
	if takes < 300 || refuses < 300 {
		t.Error(takes, refuses)
	}
}
