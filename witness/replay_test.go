package witness

import (
	"slices"
	"strings"
	"testing"

	"whittle/api"
)

// runs are formulas, and runs of them, by what each step does.
func runs() map[string]string {
	return map[string]string{
		"5":                        ". =5",
		`"a"`:                      ". =a",
		"A1":                       "A1=3 =3",
		"Z9":                       "Z9= =",
		"T!A1*A1":                  "T!A1='4 A1=3 . =12",
		"A1+A1":                    "A1=3 A1=3 . =6",
		"-A1%":                     "A1=50 . . =-0.5",
		"A1/0":                     "A1=3 . . =#DIV/0!",
		"A1>2":                     "A1=3 . . =TRUE",
		"ROUND(A1,B1)":             "A1=5/3 B1= . =2",
		"SUM(A1:B2)":               ". A1=3 B1=4 A2=x B2=TRUE . =7",
		"SUM(A1:A3,A1,2)":          ". A1=3 A2=x A3= A1=3 . . . . =8",
		"SUM(A1:A3)":               ". A1=3 A2=#N/A . =#N/A",
		"AND(A1,B1:B9)":            ". A1=FALSE . . . =FALSE",
		"AND(A1:A3,B1:B9)":         ". A1=TRUE A2=FALSE . . =FALSE",
		"FIRST(A1:A3)":             ". A1= A2=7 . =7",
		"MATCH(2,B1:B9)":           ". . . B1=#N/A B2= B3=2 . =3",
		"MATCH(A1,B1:B3)":          ". A1=#N/A . . . =#N/A",
		"COUNTIF(A1:A2,\">1\")":    ". . . A1=3 A2=1 . =1",
		"SUMIF(A1:A3,3,B1:B3)":     ". . . A1=3 B1=5 A2=2 A3=3 B3=1 . =6",
		"SUMIF(A1:A2,3)":           ". . . A1=3 A1=3 A2=2 . =3",
		"LOOKUP(2,A1:A3,T!B1:B3)":  ". . . A1= A2=2 T!B2=x . =x",
		"SUMPRODUCT(A1:A2,B3:B4)":  ". A1=3 B3=2 A2=x . =6",
		"INDEX(A1:B3,3,2)":         ". . B3=2 =2",
		"INDEX(A1:B3,A9)":          "A9=2 B1= =",
		"INDEX(A1:B3,9)":           ". . =#REF!",
		"INDEX(A1:B3,A1,B1)":       "A1=x B1=#N/A . =#N/A",
		"IF(A3,A1,SUM(A1:A9))":     "A3=TRUE . A1=3 . =3",
		"IF(A3,SUM(A1:A9),A1)":     "A3=FALSE . A1=3 =3",
		"IF(A3,1)":                 "A3=0 . . =FALSE",
		"IF(A2,1,2)":               "A2=x . =#VALUE!",
		"IFERROR(B1,A2)":           "B1=#N/A . A2=x =x",
		"IFERROR(B1,A2)+1":         "B1=4 . . . =5",
		"CHOOSE(B3,A1,A2,A3)":      "B3=2 . A2=x . =x",
		"CHOOSE(B3,A1,A2)":         "B3=3 . =#ARG!",
		"ROWS(A1:IV65536)":         ". =65536",
		"CONCAT(A1:A2,REPT(A3,2))": ". A1=a A2= A3=b . . . . =abb",
	}
}

func TestReplayRuns(t *testing.T) { // Promise 22.2: what runs come to, step by step, of each kind of step: reads of cells, of areas, of partners, of picks; steps that read none; and nothing less.
	for text, steps := range runs() {
		l, run := flat(t, text), events(steps)
		replayed(t, l, run[len(run)-1].V, run...)
		for k := range run {
			noReplay(t, "cut off", l, run[:k]...)
			noReplay(t, "begun late", l, run[k+1:]...)
			noReplay(t, "one left out", l, left(run, k)...)
			noReplay(t, "one twice", l, twice(run, k)...)
		}
		noReplay(t, "two runs", l, slices.Concat(run, run)...)
		noReplay(t, "one more behind it", l, append(slices.Clone(run), api.Event{Cell: run[0].Cell})...)
	}
}

func TestReplayBent(t *testing.T) { // Promise 22.2: of each step each field.
	for text, steps := range runs() {
		l, run := flat(t, text), events(steps)
		for i, e := range run {
			not := func(what string, bend func(*api.Event)) {
				t.Helper()
				noReplay(t, what, l, bent(run, i, bend)...)
			}
			not("another cell is read", func(x *api.Event) { x.Read = at("IV65536") })
			not("another sheet's cell is read", func(x *api.Event) { x.Read.Sheet += 2 })
			not("what it reads is no cell", func(x *api.Event) { x.Read.Row-- })
			not("Reads is turned", func(x *api.Event) { x.Reads = !x.Reads })
			not("Wrote is turned", func(x *api.Event) { x.Wrote = !x.Wrote })
			not("Reads and Wrote are turned", func(x *api.Event) { x.Reads, x.Wrote = !x.Reads, !x.Wrote })
			if e.Reads {
				not("no cell is told", func(x *api.Event) { x.Reads, x.Read = false, api.Cell{} })
				not("nothing is told", func(x *api.Event) { *x = api.Event{Cell: x.Cell} })
			} else {
				not("it reads A1", func(x *api.Event) { x.Reads, x.V = true, blank() })
				not("another value", func(x *api.Event) { x.V = txt("other") })
				not("another fault", func(x *api.Event) { x.V = bad(api.FaultCircle) })
			}
			for _, v := range wrongs() {
				not("V is not right", func(x *api.Event) { x.V = v })
			}
			if len(run) > 1 {
				not("another cell", func(x *api.Event) { x.Cell.Sheet++ })
				not("another row", func(x *api.Event) { x.Cell.Row-- })
				not("another column", func(x *api.Event) { x.Cell.Col = -1 })
			}
		}
	}
}

func TestReplayValues(t *testing.T) { // Promise 22.2: of a step that reads V is any right value, and what comes of it is the result; with the old one it is no run.
	for _, row := range []struct{ text, was, is string }{
		{"A1", "A1=3 =3", "A1=x =x"},
		{"A1", "A1=3 =3", "A1= ="},
		{"A1", "A1=3 =3", "A1=#CIRCLE! =#CIRCLE!"},
		{"A1", "A1=3 =3", "A1=1000000000000 =1000000000000"},
		{"A1&A1", "A1=a A1=a . =aa", "A1=a A1=b . =ab"}, // one cell, and two values of it
		{"SUM(A1:A2)", ". A1=1 A2=2 . =3", ". A1=1 A2=5 . =6"},
		{"IF(A1,B1,5)", "A1=TRUE . B1=2 . =2", "A1=FALSE . . =5"},
		{"INDEX(A1:A3,B1)", "B1=1 A1=7 =7", "B1=2 A2=7 =7"},
		{"MATCH(1,A1:A3)", ". . . A1=0 A2=1 . =2", ". . . A1=1 . =1"},
	} {
		l, was, is := flat(t, row.text), events(row.was), events(row.is)
		replayed(t, l, was[len(was)-1].V, was...)
		replayed(t, l, is[len(is)-1].V, is...)
		if was[len(was)-1].V != is[len(is)-1].V {
			noReplay(t, "the other's result", l, bent(is, len(is)-1, func(x *api.Event) { x.V = was[len(was)-1].V })...)
		}
	}
	// Long texts, and numbers at their edges, are right.
	long := txt(strings.Repeat("~", api.MaxText))
	for _, v := range []api.Value{long, txt(""), {Kind: api.Number, Num: api.Num{N: -api.MaxNum, D: 1}}, {Kind: api.Number, Num: api.Num{N: 1, D: api.MaxDen}}, truth(true), truth(false), bad(api.FaultArg)} {
		c := at("A1")
		replayed(t, flat(t, "A1"), v, api.Event{Reads: true, Read: c, V: v}, api.Event{Wrote: true, V: v})
	}
}

func TestReplayUnlikeReads(t *testing.T) { // Promise 22.2: by its words values are any, so that a run that reads one cell as two values may have in it a shorter one. (22.6 is of runs such as happen: each cell with one value.)
	l := flat(t, "SUMIF(A1:A2,1)")
	run := events(". . . A1=1 A1=x A2=2 . =0")
	replayed(t, l, n(0), run...)
	replayed(t, l, n(0), left(run, 3)...)
	noReplay(t, "one left out", l, left(run, 4)...)
}

func TestReplayCells(t *testing.T) { // Promise 22.2: the one Cell may be any, a cell or not, be it the one that is read.
	l := flat(t, "SUM(A1:B1)")
	for _, c := range append(strange(), list("A1 B1 IV9 T!A1 U!IV65536")...) {
		run := events(". A1=1 B1=2 . =3")
		for i := range run {
			run[i].Cell = c
		}
		replayed(t, l, n(3), run...)
		for i := range run {
			if c != at("C3") {
				noReplay(t, "two cells", l, bent(run, i, func(x *api.Event) { x.Cell = at("C3") })...)
			}
		}
	}
}

func TestReplayNoCode(t *testing.T) { // Promise 22.2: false of what is no code, whatever the events.
	run := events(". =5")
	push, store := api.Ins{Op: api.InsPush, V: n(5)}, api.Ins{Op: api.InsStore}
	replayed(t, []api.Ins{push, store}, n(5), run...)
	for i, l := range [][]api.Ins{
		nil, {}, {store}, {push}, {push, push}, {push, push, store}, {push, store, store}, {push, store, push}, {store, push},
		{{Op: api.InsPush, V: wrongs()[0]}, store}, {{Op: 99}, store}, {{Op: api.InsPush, V: n(5), A: 1}, store}, {push, {Op: api.InsStore, B: 1}},
		{push, {Op: api.InsJump, A: 1}, store}, {push, {Op: api.InsJump, A: 3}, store}, {{Op: api.InsLoad, Cell: api.Cell{Row: -1}}, store},
	} {
		for _, e := range [][]api.Event{run, nil, events("="), events(". . =5"), events("A1=5 =5"), {{Wrote: true, V: bad(api.FaultValue)}}} {
			if v, ok := Replay(l, e...); ok || v != (api.Value{}) {
				t.Errorf("number %d, %s: %v", i, shown(e), v)
			}
		}
	}
}

func TestReplayNone(t *testing.T) { // Promise 22.2, R3: no events are no run, nil or empty.
	for text := range runs() {
		for _, l := range [][]api.Event{nil, {}, make([]api.Event, 0, 9)} {
			noReplay(t, "none", flat(t, text), l...)
		}
	}
}

func TestReplayStrangeCodes(t *testing.T) { // Promise 22.2: of codes such as no formula has, too.
	push, store := func(v api.Value) api.Ins { return api.Ins{Op: api.InsPush, V: v} }, api.Ins{Op: api.InsStore}
	a := api.Area{Bottom: 1}
	for _, row := range []struct {
		l    []api.Ins
		text string
	}{
		{[]api.Ins{push(n(5)), {Op: api.InsJump, A: 2}, {Op: api.InsJump, A: 3}, store}, ". . . =5"},
		{[]api.Ins{push(blank()), {Op: api.InsGuard, A: 3}, push(n(1)), store}, ". . ="},
		{[]api.Ins{{Op: api.InsOpen, A: api.FnSum}, {Op: api.InsScan, Area: a}, {Op: api.InsScan, Area: a}, {Op: api.InsClose}, store}, ". A1=1 A2=2 A1=1 A2=2 . =6"},
		{[]api.Ins{{Op: api.InsOpen, A: api.FnSumIf}, {Op: api.InsScan2, Area: a, Pair: a}, {Op: api.InsClose}, store}, ". A1=1 A2=2 . =0"},
		{[]api.Ins{{Op: api.InsOpen, A: api.FnLookup}, {Op: api.InsClose}, store}, ". . =#N/A"},
		{[]api.Ins{push(n(2)), {Op: api.InsChoose, B: 3, To: []int{2, 2}}, {Op: api.InsLoad}, store}, ". . A1=x =x"},
		{[]api.Ins{push(n(3)), {Op: api.InsChoose, B: 3, To: []int{2, 2}}, {Op: api.InsLoad}, store}, ". . =#ARG!"},
	} {
		run := events(row.text)
		replayed(t, row.l, run[len(run)-1].V, run...)
		for k := range run {
			noReplay(t, "one left out", row.l, left(run, k)...)
			noReplay(t, "one twice", row.l, twice(run, k)...)
			noReplay(t, "Wrote is turned", row.l, bent(run, k, func(x *api.Event) { x.Wrote = !x.Wrote })...)
			noReplay(t, "Reads is turned", row.l, bent(run, k, func(x *api.Event) { x.Reads = !x.Reads })...)
		}
	}
}

func TestReplayAgain(t *testing.T) { // R4: asked again, between others that are and that are none, it is the same.
	for text, steps := range runs() {
		l, run := flat(t, text), events(steps)
		for k := range run {
			replayed(t, l, run[len(run)-1].V, run...)
			noReplay(t, "cut off", l, run[:k]...)
		}
	}
}
