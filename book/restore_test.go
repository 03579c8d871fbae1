package book

import (
	"fmt"
	"math/rand"
	"slices"
	"testing"

	"whittle/api"
	"whittle/order"
)

// stateOf is a book's state; nothing else is in it.
func stateOf(b *Book) api.State {
	s := api.State{Sheets: b.Sheets(), Version: b.Version()}
	for sheet := range s.Sheets {
		for _, c := range b.Cells(sheet) {
			s.Cells = append(s.Cells, api.Held{Cell: c, Text: b.Text(c)})
		}
	}
	return s
}

// littered is a state in which all that is not looked at says whatever it may.
func littered(r *rand.Rand, s api.State) api.State {
	s.Cells = slices.Clone(s.Cells)
	numbers := []int{0, -1, 7, -1 << 63, 1<<63 - 1}
	for i := range s.Cells {
		n := numbers[r.Intn(len(numbers))]
		s.Cells[i].Stale, s.Cells[i].Ever, s.Cells[i].Version = r.Intn(2) == 0, r.Intn(2) == 0, n
		s.Cells[i].V = api.Value{Kind: n, Text: "\x00", Fault: 99}
	}
	s.Views = [][]api.Area{nil, {{Sheet: -1}}, make([]api.Area, 99)}
	s.Frames = make([]api.Flight, r.Intn(40))
	for i := range s.Frames {
		s.Frames[i] = api.Flight{On: true, Cell: api.Cell{Sheet: -7}, Frame: api.Frame{At: -1, Steps: -1, Done: true}}
	}
	return s
}

func TestLawRestore(t *testing.T) { // Promise 11.6: a book of the state's sheets, contents and version, whatever else is in it; it goes on as the first one.
	r := rand.New(rand.NewSource(115))
	for range 150 {
		b := opened(t)
		for range r.Intn(8) {
			b.Edit(randomEdit(r, true)...)
		}
		again, why := Restore(littered(r, stateOf(b)))
		if again == nil || why != api.OK || tells(again) != tells(b) {
			t.Fatalf("Restore of %v: %d", stateOf(b), why)
		}
		for range 5 {
			l := randomEdit(r, true)
			if one, two := b.Edit(l...), again.Edit(l...); one != two || tells(again) != tells(b) {
				t.Fatalf("Edit(%.500q): %v, restored %v", fmt.Sprint(l), one, two)
			}
		}
	}
}

func TestRestoreFull(t *testing.T) { // Promise 11.6: MaxCells cells are taken, one more is not.
	b := crowded(t, api.MaxCells)
	s := stateOf(b)
	again, why := Restore(s)
	if why != api.OK || tells(again) != tells(b) {
		t.Fatal("MaxCells cells:", why)
	}
	refused(t, again, full, put("T!A1", "1"))
	taken(t, again, puts("T!A1", "1", "A1", "")...)
	s.Cells = append(s.Cells, api.Held{Cell: at("T!A1"), Text: "1"})
	wrongState(t, s)
}

// wrongState is a state that must be refused, whatever it says of what is not looked at.
func wrongState(t *testing.T, s api.State) {
	t.Helper()
	for _, x := range []api.State{s, littered(rand.New(rand.NewSource(1)), s)} {
		if b, why := Restore(x); b != nil || why != api.ErrState {
			t.Errorf("Restore of %.500q: %d", fmt.Sprint(x), why)
		}
	}
}

func TestRestoreSheets(t *testing.T) { // Promise 11.6: New's error comes first.
	wrongs := []api.State{{}, {Version: -1}, {Cells: []api.Held{{}}}, {Version: api.MaxNum + 1, Cells: make([]api.Held, 5000)}}
	for _, x := range []struct {
		sheets []string
		want   api.Errno
	}{{nil, api.ErrArg}, {[]string{}, api.ErrArg}, {named(17), api.ErrMany}, {[]string{"S", ""}, api.ErrLatin}, {[]string{"S", "T", "S"}, api.ErrTwice}, {[]string{"S", "S", "1"}, api.ErrTwice}} {
		for _, s := range wrongs {
			s.Sheets = x.sheets
			if b, why := Restore(s); b != nil || why != x.want {
				t.Errorf("Restore of %.300q: %d, want %d", fmt.Sprint(s), why, x.want)
			}
		}
	}
}

func TestRestoreVersion(t *testing.T) { // Promise 11.6: a version from 0 to MaxNum; an edit behind it is one more.
	for _, n := range []int{0, 1, 7, api.MaxNum - 1, api.MaxNum} {
		b, why := Restore(api.State{Sheets: []string{"S", "T"}, Version: n})
		if why != api.OK || b.Version() != n || b.Len() != 0 {
			t.Fatalf("version %d: %d", n, why)
		}
		taken(t, b, put("A1", "1"))
	}
	for _, n := range []int{-1, -api.MaxNum, -1 << 63, api.MaxNum + 1, 1<<63 - 1} {
		wrongState(t, api.State{Sheets: []string{"S", "T"}, Version: n})
		wrongState(t, api.State{Sheets: []string{"S", "T"}, Version: n, Cells: []api.Held{{Text: "1"}}})
	}
}

// ordered is a state of S and T with cells at these places.
func ordered(cells ...api.Cell) api.State {
	s := api.State{Sheets: []string{"S", "T"}, Version: 3}
	for i, c := range cells {
		s.Cells = append(s.Cells, api.Held{Cell: c, Text: []string{"1", "=B1", "x"}[i%3]})
	}
	return s
}

func TestRestoreOrder(t *testing.T) { // Promise 11.6: each cell stands behind the one ahead.
	var l []api.Cell
	for _, name := range []string{"A1", "B1", "C1", "A2", "C2", "A9", "IV9", "T!A1", "T!B1", "T!A2"} {
		l = append(l, at(name))
	}
	for n := range len(l) + 1 {
		if b, why := Restore(ordered(l[:n]...)); why != api.OK || b.Len() != n || b.Version() != 3 {
			t.Errorf("%d cells: %d", n, why)
		}
	}
	for i := range l {
		for k := range i {
			other := slices.Clone(l)
			other[i], other[k] = other[k], other[i]
			wrongState(t, ordered(other...))
			other = slices.Clone(l)
			other[i] = other[k]
			wrongState(t, ordered(other...))
		}
		wrongState(t, ordered(slices.Insert(slices.Clone(l), i, l[i])...))
	}
}

func TestRestoreContents(t *testing.T) { // Promise 11.6: no cell without a text, none that Edit would refuse by itself, at each place.
	l := []api.Cell{at("A1"), at("B1"), at("C3"), at("T!A1"), at("T!C3")}
	for i := range l {
		s := ordered(l...)
		s.Cells[i].Text = ""
		wrongState(t, s)
	}
	for _, w := range wrongTexts() {
		for i := range l {
			s := ordered(l...)
			s.Cells[i].Text = w.change.Text
			wrongState(t, s)
		}
	}
	for _, w := range wrongCells() {
		held := api.Held{Cell: w.change.Cell, Text: w.change.Text}
		wrongState(t, api.State{Sheets: []string{"S", "T"}, Cells: []api.Held{held}})
		s := ordered(l...)
		i, _ := slices.BinarySearchFunc(l, held.Cell, order.Cells)
		s.Cells = slices.Insert(s.Cells, i, held)
		wrongState(t, s)
	}
}
