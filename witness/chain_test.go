package witness

import (
	"fmt"
	"testing"

	"whittle/api"
	"whittle/tasks"
)

func TestChainNoCell(t *testing.T) { // Promise 22.1: ErrCell of what is no cell of the book, stale cells about or not.
	for _, x := range []*tasks.Tasks{opened(t), opened(t, "A1", "=B1", "B1", "=SUM(C1:IV65536,T!A1:IV65536)", "T!A1", "=1")} {
		for _, c := range strange() {
			noChain(t, x, c, api.ErrCell)
		}
	}
}

func TestChainSheets(t *testing.T) { // Promise 22.1: a cell of the first sheet that there is not is none; of the last one that there is it is.
	for count := 1; count <= api.MaxSheets; count++ {
		var l []string
		for i := range count {
			l = append(l, fmt.Sprint("S", i))
		}
		x, why := tasks.New(l...)
		if why != api.OK {
			t.Fatal(why)
		}
		noChain(t, x, api.Cell{Sheet: count}, api.ErrCell)
		last := api.Cell{Sheet: count - 1, Row: api.MaxRows - 1, Col: api.MaxCols - 1}
		noChain(t, x, last, api.ErrFresh)
		if r := x.Edit(api.Change{Cell: last, Text: "=1"}); r.Code != api.OK {
			t.Fatal(r)
		}
		if l, why := Chain(x, last); len(l) != 1 || l[0] != last || why != api.OK {
			t.Error(l, why)
		}
	}
}

func TestChainFresh(t *testing.T) { // Promise 22.1: ErrFresh of an empty cell, a constant, a cyclic formula, one that was worked out.
	x := opened(t, "A1", "1", "B1", "=A1", "C1", "=C1", "D1", "=C1+B1", "E1", "=B1", "T!A1", "x", "T!A2", "=S!B1")
	for _, c := range list("A1 C1 D1 A2 IV65536 T!A1 T!IV65536 U!A1") {
		noChain(t, x, c, api.ErrFresh)
	}
	chainIs(t, x, "T!A2", "T!A2 B1")
	chainIs(t, x, "E1", "E1 B1")
	ticked(t, x, 0, 1, 1)
	chainIs(t, x, "B1", "B1")
	ticked(t, x, 0, 1, 1)
	noChain(t, x, at("B1"), api.ErrFresh)
	chainIs(t, x, "E1", "E1")
	chainIs(t, x, "T!A2", "T!A2")
	settle(t, x)
	for _, c := range list("B1 E1 T!A2") {
		noChain(t, x, c, api.ErrFresh)
	}
}

func TestChainFirst(t *testing.T) { // Promise 22.1: the first of the stale ones in the order of cells: by sheet, row, column; in whatever order and however the formula names them, fresh ones passed over.
	for text, want := range map[string]string{
		"=C5+B5":                              "B5",
		"=B5+C5":                              "B5",
		"=C5+B5+A5":                           "A5",
		"=A6+B5":                              "B5",
		"=IV5+A6":                             "IV5",
		"=T!A1+IV65536":                       "IV65536",
		"=U!A1+T!IV65536":                     "T!IV65536",
		"=U!A1+T!IV65536+C6":                  "C6",
		"=A1+A2+C5":                           "C5",
		"=SUM(A1:C9)":                         "A5",
		"=SUM(B1:C9)":                         "B5",
		"=SUM(C6:C9,B6:C9,B5:B6)":             "B5",
		"=SUM(C6:C9,B6:C9)":                   "B6",
		"=SUM(A1:A4,C5:C6,A6:C6)":             "C5",
		"=SUM(A6:C6,C5:C6)":                   "C5",
		"=SUM(A6:IV7)":                        "A6",
		"=SUM(A7:IV65536)":                    "IV65536",
		"=SUM(IV65536:IV65536,U!A1:B9)":       "IV65536",
		"=SUM(D1:Z65536)+U!A1":                "U!A1",
		"=SUM(T!A1:IV65536)":                  "T!IV65536",
		"=SUM(U!A1:IV65536,T!A1:IV65536)":     "T!IV65536",
		"=SUM(U!A1:IV65536,T!A1:IU65536)":     "U!A1",
		"=SUM($C$5,C5,B$5:C5)":                "B5",
		"=IF(FALSE,B5,C5)":                    "B5",
		"=IF(TRUE,C6,C5)":                     "C5",
		"=CHOOSE(1,C5,C6,A6)":                 "C5",
		"=IFERROR(1,C6)":                      "C6",
		"=INDEX(B5:C6,1,C6)":                  "B5",
		"=INDEX(A1:A2,C6)":                    "C6",
		"=MATCH(C6,C1:C9)":                    "C5",
		"=SUMIF(A1:A2,1,C5:C6)":               "C5",
		"=SUMIF(C5:C6,1,B5:B6)":               "B5",
		"=LOOKUP(C6,A1:A2,B5:B6)":             "B5",
		"=SUMPRODUCT(C5:C6,B5:B6)":            "B5",
		"=COUNTIF(A1:A4,C5)":                  "C5",
		"=AND(FALSE,C5:C6)":                   "C5",
		"=1/0+C6":                             "C6",
		"=NOT(C6)":                            "C6",
		"=ROWS(A5:C5)+C6":                     "C6",
		"=ROWS(A5:C5)+COLUMNS(A1:IV65536)":    "",
		"=A1+A2+B9+T!A1":                      "",
		"=SUM(A1:C4,A7:IU65535,T!A1:IU65536)": "",
		"=5":                                  "",
		"=Z9":                                 "",
		"=SUM(D4:IU9)":                        "",
	} {
		x := opened(t, "A1", "1", "A2", "=A1", "A5", "=1", "B5", "=2", "C5", "=3", "IV5", "=4", "A6", "=5", "B6", "=6", "C6", "=7", "IV65536", "=8", "T!IV65536", "=9", "U!A1", "=10", "B9", "x")
		ticked(t, x, 0, 2, 2)
		noChain(t, x, at("A2"), api.ErrFresh)
		edited(t, x, "IU1", text)
		chainIs(t, x, "IU1", names(append(list("IU1"), list(want)...)...))
	}
}

func TestChainGoesOn(t *testing.T) { // Promise 22.1: link by link, by the first of each, be another one ready sooner; over sheets and back.
	x := opened(t, "D1", "=B1+C1", "B1", "=T!A1+C1", "T!A1", "=S!C2+S!D9", "C2", "=U!B2", "U!B2", "=S!C3", "C3", "=SUM(C1,D4:D9)", "D5", "=U!A1", "U!A1", "=5", "C1", "=6", "D9", "=7")
	chainIs(t, x, "D1", "D1 B1 C1")
	chainIs(t, x, "T!A1", "T!A1 C2 U!B2 C3 C1")
	ticked(t, x, 0, 2, 2)
	chainIs(t, x, "D1", "D1 B1 T!A1 C2 U!B2 C3 D5 U!A1")
	chainIs(t, x, "U!B2", "U!B2 C3 D5 U!A1")
	ticked(t, x, 2, 2, 2)
	chainIs(t, x, "D1", "D1 B1 T!A1 C2 U!B2 C3 D5")
	ticked(t, x, 0, 2, 2) // D9, which is on a lower level
	chainIs(t, x, "D1", "D1 B1 T!A1 C2 U!B2 C3 D5")
	ticked(t, x, 0, 2, 2)
	chainIs(t, x, "D1", "D1 B1 T!A1 C2 U!B2 C3")
	settle(t, x)
	for _, c := range list("D1 B1 T!A1 C2 U!B2 C3 D5 U!A1 C1 D9") {
		noChain(t, x, c, api.ErrFresh)
	}
}

func TestChainParked(t *testing.T) { // Promise 22.1, 22.4: a frame under way turns nothing: its cell is stale, and ready, till it ends.
	x := opened(t, "A1", "3", "B1", "=SUM(A1:A9)", "C1", "=B1")
	for range 11 {
		chainIs(t, x, "C1", "C1 B1")
		ticked(t, x, 0, 1, 1)
		chainIs(t, x, "B1", "B1")
	}
	ticked(t, x, 0, 1, 1)
	noChain(t, x, at("B1"), api.ErrFresh)
	chainIs(t, x, "C1", "C1")
	ticked(t, x, 0, 1, 1)
	edited(t, x, "A9", "1")
	chainIs(t, x, "C1", "C1 B1")
}

func TestChainEdited(t *testing.T) { // Promise 22.1: by the contents and flags as they are.
	x := opened(t, "A1", "1", "B1", "=A1", "C1", "=B1", "D1", "=C1")
	chainIs(t, x, "D1", "D1 C1 B1")
	edited(t, x, "B1", "7")
	chainIs(t, x, "D1", "D1 C1")
	edited(t, x, "D1", "=B1")
	chainIs(t, x, "D1", "D1")
	edited(t, x, "A1", "=C1", "D1", "=A1+B1")
	chainIs(t, x, "D1", "D1 A1 C1")
	edited(t, x, "C1", "=D1")
	for _, c := range list("A1 C1 D1") {
		noChain(t, x, c, api.ErrFresh) // a circle
	}
	edited(t, x, "C1", "")
	chainIs(t, x, "D1", "D1 A1")
	if r := x.Edit(put("C1", "=1"), put("D1", "=1+")); r.Code == api.OK {
		t.Fatal(r)
	}
	chainIs(t, x, "D1", "D1 A1")
}

func TestChainViewports(t *testing.T) { // Promise 22.1: what is seen ahead turns no chain.
	x := opened(t, "A1", "=1", "B1", "=2", "C1", "=A1+B1")
	if why := x.See(0, api.Area{Left: 1, Right: 2}); why != api.OK {
		t.Fatal(why)
	}
	chainIs(t, x, "C1", "C1 A1")
	ticked(t, x, 0, 2, 2)
	chainIs(t, x, "C1", "C1 A1")
	noChain(t, x, at("B1"), api.ErrFresh)
}

func TestChainRestored(t *testing.T) { // Promise 22.1: of tasks that were made of a state.
	x, why := tasks.Restore(api.State{
		Sheets: []string{"S", "T"}, Version: 3,
		Cells: []api.Held{{Cell: at("A1"), Text: "=5", V: n(5)}, {Cell: at("B1"), Text: "=T!A1+C1", Stale: true}, {Cell: at("C1"), Text: "=A1", Stale: true}, {Cell: at("T!A1"), Text: "=S!C1", Stale: true, Ever: true, V: n(9)}},
		Views: make([][]api.Area, 2), Frames: make([]api.Flight, 2),
	})
	if why != api.OK {
		t.Fatal(why)
	}
	noChain(t, x, at("A1"), api.ErrFresh)
	chainIs(t, x, "B1", "B1 C1")
	chainIs(t, x, "T!A1", "T!A1 C1")
	ticked(t, x, 0, 2, 2)
	chainIs(t, x, "B1", "B1 T!A1")
}

func TestChainDone(t *testing.T) { // Promise 22.1: what others have Done is fresh.
	x := opened(t, "A1", "=1", "B1", "=A1", "C1", "=B1+A1")
	chainIs(t, x, "C1", "C1 A1")
	if why := x.Done(at("A1")); why != api.OK {
		t.Fatal(why)
	}
	noChain(t, x, at("A1"), api.ErrFresh)
	chainIs(t, x, "C1", "C1 B1")
}

func TestChainTurnsNothing(t *testing.T) { // R4: a chain, told or refused, turns nothing; asked again it is the same.
	x := opened(t, "A1", "2", "B1", "=SUM(A1:A9)", "C1", "=B1+T!A1", "T!A1", "=S!B1")
	ticked(t, x, 0, 5, 5)
	was := tells(x)
	for range 2 {
		chainIs(t, x, "C1", "C1 B1")
		chainIs(t, x, "T!A1", "T!A1 B1")
		noChain(t, x, at("A1"), api.ErrFresh)
		noChain(t, x, api.Cell{Row: -1}, api.ErrCell)
	}
	if tells(x) != was {
		t.Error("a chain has turned what tasks tell")
	}
}

func TestChainRound(t *testing.T) { // R1, R7: behind edits past the marks, where stale cells may go round, a call ends and doesn't panic.
	x := opened(t, "A1", "=1", "B1", "=A1", "C1", "=B1", "T!A1", "=S!C1")
	for _, l := range [][]api.Change{
		{put("A1", "=A1")}, {put("A1", "=B1")}, {put("A1", "=T!A1")}, {put("A1", "=SUM(A1:IV65536,T!A1:IV65536)")},
		{put("B1", "=C1"), put("C1", "=B1")}, {put("A1", ""), put("B1", "7"), put("C1", "=C1+A1")},
	} {
		if r := x.Book.Edit(l...); r.Code != api.OK {
			t.Fatal(r)
		}
		for _, c := range append(strange(), list("A1 B1 C1 D1 T!A1 T!B1")...) {
			Chain(x, c)
		}
	}
	x.Graph.Edit(put("A1", "=C1"), put("B1", "=A1"), put("C1", "=A1"))
	x.Marks.Edit(put("C1", "=A1"))
	for _, c := range list("A1 B1 C1 T!A1") {
		Chain(x, c)
	}
}

func TestLinksGivenUp(t *testing.T) { // Whoever goes through links may stop at any, and begin again.
	x := opened(t, "A1", "=1", "B1", "=A1", "C1", "=B1", "D1", "=C1")
	ranged := links(x, at("D1"))
	for range 2 {
		var got []api.Cell
		for c := range ranged {
			if got = append(got, c); len(got) == 3 {
				break
			}
		}
		if names(got...) != "D1 C1 B1" {
			t.Error(names(got...))
		}
	}
}
