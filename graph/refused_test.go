package graph

import (
	"fmt"
	"strings"
	"testing"

	"whittle/api"
	"whittle/book"
)

// many are n names.
func many(n int) []string {
	var l []string
	for i := range n {
		l = append(l, fmt.Sprint("N", i))
	}
	return l
}

func TestNewRefused(t *testing.T) { // Promise 12.1: New is refused as the book's, with no graph.
	for _, x := range []struct {
		sheets []string
		want   api.Errno
	}{
		{nil, api.ErrArg}, {[]string{}, api.ErrArg}, {many(api.MaxSheets + 1), api.ErrMany}, {make([]string, 17), api.ErrMany},
		{[]string{""}, api.ErrLatin}, {[]string{"S", "1S"}, api.ErrLatin}, {[]string{"S", "S\n", "S"}, api.ErrLatin}, {[]string{strings.Repeat("S", api.MaxName+1)}, api.ErrLatin},
		{[]string{"S", "S"}, api.ErrTwice}, {[]string{"S", "T", "S", ""}, api.ErrTwice},
	} {
		if g, why := New(x.sheets...); g != nil || why != x.want {
			t.Errorf("New(%q): %v, %d, want %d", x.sheets, g, why, x.want)
		}
		if g, why := Restore(api.State{Sheets: x.sheets, Version: -1}); g != nil || why != x.want {
			t.Errorf("Restore of sheets %q: %v, %d, want %d", x.sheets, g, why, x.want)
		}
	}
}

func TestNewTaken(t *testing.T) { // Promise 12.1: a graph of these sheets, all cells empty, version 0.
	for n := 1; n <= api.MaxSheets; n++ {
		g, why := New(many(n)...)
		if g == nil || why != api.OK {
			t.Fatalf("New of %d names: %d", n, why)
		}
		b, _ := book.New(many(n)...)
		if tellsBook(g) != tellsBook(b) {
			t.Errorf("New of %d names tells %s", n, tellsBook(g))
		}
		for _, c := range universe() {
			if len(g.Users(c))+len(g.Reach(c))+len(g.Circle(c))+len(g.Path(c, c)) != 0 || g.Cyclic(c) || g.Level(c) != 0 {
				t.Errorf("%v of an empty graph", c)
			}
		}
	}
}

// wrongTexts are contents that no cell takes, with their errors.
func wrongTexts() map[string]api.Errno {
	return map[string]api.Errno{
		strings.Repeat("x", api.MaxContent+1): api.ErrLong, "a\nb": api.ErrText, "=1+~": api.ErrByte, `="abc`: api.ErrQuote, "=1+": api.ErrForm,
		"=SUM(" + strings.Repeat("1,", 30) + "1)": api.ErrMany, "=" + strings.Repeat("-", 300) + "1": api.ErrNodes, "=" + strings.Repeat("-", 40) + "1": api.ErrDeep,
		"=SUMM(B1)": api.ErrName, "=SUM()": api.ErrArity, "=A1:B2": api.ErrArea, "=SUMPRODUCT(A1:A2,A1:B1)": api.ErrShape, "=X!A1": api.ErrSheet,
	}
}

func TestRestoreRefused(t *testing.T) { // Promise 12.1: Restore is refused as the book's, with no graph.
	held := func(l ...string) api.State {
		s := api.State{Sheets: []string{"S", "T"}}
		for _, x := range puts(l...) {
			s.Cells = append(s.Cells, api.Held{Cell: x.Cell, Text: x.Text})
		}
		return s
	}
	wrongs := []api.State{{Sheets: []string{"S"}, Version: -1}, {Sheets: []string{"S"}, Version: api.MaxNum + 1}, held("B1", "1", "A1", "1"), held("A1", "1", "A1", "1"), held("T!A1", "1", "A1", "1"), held("A1", ""), held("A1", "=B1", "B1", "", "C1", "=A1"), held("U!A1", "1")}
	for text := range wrongTexts() {
		wrongs = append(wrongs, held("A1", text), held("A1", "=B1", "B1", text), held("A1", text, "B1", "=A1"))
	}
	for _, c := range strange() {
		wrongs = append(wrongs, api.State{Sheets: []string{"S"}, Cells: []api.Held{{Cell: c, Text: "1"}}})
	}
	full := api.State{Sheets: []string{"S"}}
	for i := range api.MaxCells + 1 {
		full.Cells = append(full.Cells, api.Held{Cell: api.Cell{Row: i}, Text: "=B1"})
	}
	for _, s := range append(wrongs, full) {
		if g, why := Restore(s); g != nil || why != api.ErrState {
			t.Errorf("Restore of %.300q: %v, %d", fmt.Sprint(s), g, why)
		}
	}
	full.Cells = full.Cells[1:]
	if g, why := Restore(full); why != api.OK || len(g.Users(at("B1"))) != api.MaxCells {
		t.Error("Restore of MaxCells cells:", why)
	}
}

// refused is an edit that must be refused as the book refuses it, with all that is told as it was.
func refused(t *testing.T, g *Graph, want api.Errno, changes ...api.Change) {
	t.Helper()
	ahead := tellsAll(g)
	b, _ := book.Restore(stateOf(g))
	r := g.Edit(changes...)
	if r.Code != want || r != b.Edit(changes...) {
		t.Errorf("Edit(%.300q): %v, want %d", fmt.Sprint(changes), r, want)
	}
	if tellsAll(g) != ahead {
		t.Errorf("Edit(%.300q), refused, has turned what is told", fmt.Sprint(changes))
	}
}

func TestEditRefused(t *testing.T) { // Promise 12.1: Edit answers what the book's does; a refused one turns nothing.
	g := opened(t, "A1", "1", "B1", "=A1", "C1", "=B1+C2", "A2", "=B2", "B2", "=A2", "C2", "=T!A1", "T!A1", "=SUM(S!A1:C1)", "T!B1", "=SUM(S!A1:IV65536)")
	refused(t, g, api.ErrNone)
	var l []api.Change
	for i := range api.MaxBatch + 1 {
		l = append(l, api.Change{Cell: api.Cell{Row: i}, Text: "=T!B2"})
	}
	refused(t, g, api.ErrMany, l...)
	refused(t, g, api.ErrTwice, puts("A2", "=B1", "C1", "", "A2", "=C1")...)
	for _, c := range append(strange(), api.Cell{Sheet: 3}) {
		refused(t, g, api.ErrCell, api.Change{Cell: c, Text: "=A1"})
		refused(t, g, api.ErrCell, put("A2", ""), put("B1", "=B1"), api.Change{Cell: c})
	}
	for text, why := range wrongTexts() {
		refused(t, g, why, put("B1", text))
		refused(t, g, why, puts("A1", "=B1", "A2", "", "C1", text)...)
		refused(t, g, why, puts("A2", text, "B2", "", "B1", "")...)
	}
}

func TestEditRefusedFull(t *testing.T) { // Promise 12.1: ErrFull, too.
	g := opened(t)
	for i := 0; i < api.MaxCells; i += api.MaxBatch {
		var l []api.Change
		for k := range api.MaxBatch {
			l = append(l, api.Change{Cell: api.Cell{Sheet: 1, Row: 10 + i + k}, Text: "7"})
		}
		if i == 0 {
			l = puts("A1", "1", "B1", "=A1", "C1", "=B1", "A2", "=B2", "B2", "=A2")
		}
		taken(t, g, l...)
	}
	var l []api.Change
	for k := range api.MaxBatch - 5 {
		l = append(l, api.Change{Cell: api.Cell{Sheet: 1, Row: 10 + k}, Text: "7"})
	}
	taken(t, g, l...)
	refused(t, g, api.ErrFull, puts("B1", "=C1", "A2", "=C1", "U!A1", "=S!A1")...)
	refused(t, g, api.ErrFull, puts("U!A1", "=S!A1")...)
	taken(t, g, puts("B1", "=C1", "A2", "", "U!A1", "=S!C1")...)
	agrees(t, g)
}
