package book

import (
	"fmt"
	"maps"
	"math/rand"
	"slices"
	"testing"

	"whittle/api"
	"whittle/order"
)

// pool are cells that the laws' edits name most: many of them of the book of two sheets.
func pool() []api.Cell {
	var l []api.Cell
	for _, name := range []string{"A1", "B1", "C1", "A2", "B2", "C2", "IV65536", "IV1", "A65536", "T!A1", "T!B1", "T!A2", "T!C9", "T!IV65536"} {
		l = append(l, at(name))
	}
	return l
}

// goodTexts are texts that a cell takes, wherever it stands in a book of S and T.
func goodTexts() []string {
	return []string{"", "", "", "1", "1/3", "'x", "x", " ", "TRUE", "#N/A", "'=A1", "=A1", "= A1", "=T!B2+1", "=S!A1&T!A1", "=SUM(A1:B3,T!C9)", "=CHOOSE(A1,1,B2,C1+2)", "=IF(A1>0,B1)", "=LOOKUP(1,A1:A3,B1:B3)", "=INDEX(A1:B9,B1,2)", "=1", "=ROWS(A1:A9)", "=IFERROR(A1/B1,CHOOSE(B2,C1,C2))"}
}

// randomCell is one of the pool, or one that may be none of the book.
func randomCell(r *rand.Rand, odd bool) api.Cell {
	l := pool()
	if odd && r.Intn(12) == 0 {
		l = append(strange(), api.Cell{Sheet: 2})
	}
	return l[r.Intn(len(l))]
}

// randomEdit is changes of which, if they may be odd, some are refused.
func randomEdit(r *rand.Rand, odd bool) []api.Change {
	texts := goodTexts()
	n := 1 + r.Intn(5)
	if odd && r.Intn(20) == 0 {
		n = []int{0, api.MaxBatch, api.MaxBatch + 1}[r.Intn(3)]
	}
	var l []api.Change
	for range n {
		x := api.Change{Cell: randomCell(r, odd), Text: texts[r.Intn(len(texts))]}
		if odd && r.Intn(12) == 0 {
			bad := wrongTexts()
			x.Text = bad[r.Intn(len(bad))].change.Text
		}
		if twice := func(y api.Change) bool { return y.Cell == x.Cell }; odd || !slices.ContainsFunc(l, twice) {
			l = append(l, x)
		}
	}
	return l
}

func TestLawEdits(t *testing.T) { // Promises 11.2, 11.3, 11.5: whatever edits come, the book tells what the model does.
	r := rand.New(rand.NewSource(111))
	tally := map[api.Errno]int{}
	for range 60 {
		b, m := opened(t), newModel("S", "T")
		for range 60 {
			l := randomEdit(r, true)
			got, want := b.Edit(l...), m.edit(l)
			if got != want {
				t.Fatalf("Edit(%.500q): %v, want %v", fmt.Sprint(l), got, want)
			}
			tally[got.Code]++
			agrees(t, m, b)
		}
	}
	for _, why := range []api.Errno{api.OK, api.ErrNone, api.ErrMany, api.ErrCell, api.ErrTwice, api.ErrLong, api.ErrText, api.ErrForm} {
		if tally[why] < 20 {
			t.Error("just", tally[why], "edits of the error", why)
		}
	}
}

func TestLawFull(t *testing.T) { // Promise 11.2: near MaxCells, with cells emptied, laid and laid anew in one edit.
	r := rand.New(rand.NewSource(112))
	b, m := crowded(t, api.MaxCells-4), newModel("S", "T")
	for _, c := range b.Cells(0) {
		m.texts[c] = "1"
	}
	m.version = b.Version()
	tally := map[api.Errno]int{}
	for range 2000 {
		var l []api.Change
		for range 1 + r.Intn(6) {
			cell := api.Cell{Sheet: r.Intn(2), Row: r.Intn(16)}
			l = append(l, api.Change{Cell: cell, Text: []string{"", "5", "=B1"}[r.Intn(3)]})
		}
		got, want := b.Edit(l...), m.edit(l)
		if got != want || b.Len() != len(m.texts) || b.Version() != m.version {
			t.Fatalf("Edit(%v): %v, want %v; %d cells, want %d", l, got, want, b.Len(), len(m.texts))
		}
		tally[got.Code]++
	}
	agrees(t, m, b)
	if tally[api.ErrFull] < 100 || tally[api.OK] < 100 {
		t.Error(tally)
	}
}

// parted lays the texts into the cells by edits of whatever sizes and order, over other contents that were laid and emptied ahead.
func parted(t *testing.T, r *rand.Rand, texts map[api.Cell]string) *Book {
	t.Helper()
	b := opened(t)
	for range r.Intn(6) {
		taken(t, b, randomEdit(r, false)...)
	}
	var l []api.Change
	for _, c := range slices.Concat(b.Cells(0), b.Cells(1)) {
		l = append(l, api.Change{Cell: c, Text: texts[c]})
	}
	for _, c := range slices.SortedFunc(maps.Keys(texts), order.Cells) {
		if b.Kind(c) == api.Empty {
			l = append(l, api.Change{Cell: c, Text: texts[c]})
		}
	}
	r.Shuffle(len(l), func(i, k int) { l[i], l[k] = l[k], l[i] })
	for len(l) > 0 {
		n := 1 + r.Intn(len(l))
		taken(t, b, l[:n]...)
		l = l[n:]
	}
	return b
}

func TestLawParted(t *testing.T) { // Promise 11.4: the same contents, parted among edits and ordered in other ways, tell the same.
	r := rand.New(rand.NewSource(113))
	versions := map[int]int{}
	for range 200 {
		texts := map[api.Cell]string{}
		for range r.Intn(12) {
			l := goodTexts()[3:]
			texts[randomCell(r, false)] = l[r.Intn(len(l))]
		}
		one, two := parted(t, r, texts), parted(t, r, texts)
		if one.Len() != len(texts) || contentsOf(one) != contentsOf(two) {
			t.Fatalf("%s and %s of the same contents", tells(one), tells(two))
		}
		versions[one.Version()-two.Version()]++
		for one.Version() < two.Version() {
			taken(t, one, put("Z99", ""))
		}
		for two.Version() < one.Version() {
			taken(t, two, put("Z99", ""))
		}
		if tells(one) != tells(two) {
			t.Fatalf("%s and %s of the same contents and version", tells(one), tells(two))
		}
	}
	if len(versions) < 5 {
		t.Error("the edits were parted alike:", versions)
	}
}

func TestLawApart(t *testing.T) { // R4: two books have nothing in common.
	r := rand.New(rand.NewSource(114))
	one, two := opened(t), opened(t)
	for range 300 {
		still := tells(two)
		one.Edit(randomEdit(r, true)...)
		if tells(two) != still {
			t.Fatal("an edit of one book is told by another")
		}
		one, two = two, one
	}
}
