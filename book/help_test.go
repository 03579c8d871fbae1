package book

import (
	"fmt"
	"slices"
	"strings"
	"testing"

	"whittle/api"
	"whittle/place"
)

// at is a cell by its name, with T! ahead of one of the sheet 1.
func at(name string) api.Cell {
	sheet := 0
	if rest, ok := strings.CutPrefix(name, "T!"); ok {
		sheet, name = 1, rest
	}
	row, col, ok := place.Read(name)
	if !ok {
		panic("no cell: " + name)
	}
	return api.Cell{Sheet: sheet, Row: row, Col: col}
}

// put is a change of a cell, by its name.
func put(name, text string) api.Change { return api.Change{Cell: at(name), Text: text} }

// puts are changes: names and texts by turns.
func puts(list ...string) []api.Change {
	var l []api.Change
	for i := 0; i < len(list); i += 2 {
		l = append(l, put(list[i], list[i+1]))
	}
	return l
}

// made is a book of these sheets.
func made(t *testing.T, sheets ...string) *Book {
	t.Helper()
	b, why := New(sheets...)
	if b == nil || why != api.OK {
		t.Fatalf("New(%q): %d", sheets, why)
	}
	return b
}

// opened is a book of the sheets S and T in which an edit was done, if there are changes.
func opened(t *testing.T, changes ...api.Change) *Book {
	t.Helper()
	b := made(t, "S", "T")
	if len(changes) > 0 {
		taken(t, b, changes...)
	}
	return b
}

// taken is an edit that must be accepted.
func taken(t *testing.T, b *Book, changes ...api.Change) {
	t.Helper()
	ahead := b.Version()
	if r := b.Edit(changes...); r != (api.Refusal{}) {
		t.Fatalf("Edit(%.300q): %v", fmt.Sprint(changes), r)
	}
	if b.Version() != ahead+1 {
		t.Fatalf("version %d behind an edit, %d ahead", b.Version(), ahead)
	}
}

// refused is an edit that must be refused so, and leave all as it was.
func refused(t *testing.T, b *Book, want api.Refusal, changes ...api.Change) {
	t.Helper()
	ahead := tells(b)
	if r := b.Edit(changes...); r != want {
		t.Errorf("Edit(%.300q): %v, want %v", fmt.Sprint(changes), r, want)
	}
	if tells(b) != ahead {
		t.Errorf("Edit(%.300q), refused, has changed the book", fmt.Sprint(changes))
	}
}

// strange are cells that no book has.
func strange() []api.Cell {
	const least, most = -1 << 63, 1<<63 - 1
	var l []api.Cell
	for _, n := range []int{-1, api.MaxSheets, least, most} {
		l = append(l, api.Cell{Sheet: n})
	}
	for _, n := range []int{-1, api.MaxRows, least, most} {
		l = append(l, api.Cell{Row: n})
	}
	for _, n := range []int{-1, api.MaxCols, least, most} {
		l = append(l, api.Cell{Col: n})
	}
	return append(l, api.Cell{Sheet: -1, Row: -1, Col: -1})
}

// tellsCell is all that a book tells of a cell.
func tellsCell(b *Book, c api.Cell) string {
	return fmt.Sprintf("%v %d %q %v %v %v\n", c, b.Kind(c), b.Text(c), b.Constant(c), b.Code(c), b.Uses(c))
}

// contentsOf is all that a book tells but for its version: of its cells, and of some that have no contents or are none.
func contentsOf(b *Book) string {
	var s strings.Builder
	fmt.Fprintf(&s, "%q %d\n", b.Sheets(), b.Len())
	for sheet := -1; sheet <= api.MaxSheets; sheet++ {
		cells := b.Cells(sheet)
		fmt.Fprintf(&s, "%d %v\n", sheet, cells)
		for _, c := range cells {
			s.WriteString(tellsCell(b, c))
		}
	}
	for _, name := range append(b.Sheets(), "", "s", "nobody") {
		fmt.Fprintf(&s, "%q %d\n", name, b.Sheet(name))
	}
	for _, c := range append(strange(), at("A1"), at("B2"), at("T!A1"), at("IV65536"), api.Cell{Sheet: len(b.Sheets())}) {
		s.WriteString(tellsCell(b, c))
	}
	return s.String()
}

// tells is all that a book tells.
func tells(b *Book) string { return fmt.Sprint(b.Version(), "\n", contentsOf(b)) }

// fits is a text of so many bytes that begins so.
func fits(n int, head, with string) string { return head + strings.Repeat(with, n-len(head)) }

// column is changes of n cells of a sheet's column A, from a row on.
func column(sheet, from, n int, text string) []api.Change {
	var l []api.Change
	for i := range n {
		l = append(l, api.Change{Cell: api.Cell{Sheet: sheet, Row: from + i}, Text: text})
	}
	return l
}

// crowded is a book of S and T with n cells of S's column A.
func crowded(t *testing.T, n int) *Book {
	t.Helper()
	b := opened(t)
	for batch := range slices.Chunk(column(0, 0, n, "1"), api.MaxBatch) {
		taken(t, b, batch...)
	}
	return b
}

func truth(yes bool) api.Value { return api.Value{Kind: api.Truth, True: yes} }

func number(n, d int) api.Value { return api.Value{Kind: api.Number, Num: api.Num{N: n, D: d}} }

func words(s string) api.Value { return api.Value{Kind: api.Text, Text: s} }

func fault(code int) api.Value { return api.Value{Kind: api.Fault, Fault: code} }
