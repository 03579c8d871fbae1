package witness

import (
	"math/rand"
	"slices"
	"testing"

	"whittle/api"
)

// splitsTo holds the pieces of events.
func splitsTo(t *testing.T, l []api.Event, want ...[]api.Event) {
	t.Helper()
	if got := Split(l...); !slices.EqualFunc(got, want, slices.Equal[[]api.Event]) {
		t.Errorf("Split(%v): %v, want %v", l, got, want)
	}
}

// of is events by a text: a letter for the cell of each, a great one for those that wrote.
func of(text string) []api.Event {
	var l []api.Event
	for _, letter := range text {
		event := api.Event{Wrote: letter < 'a'}
		if event.Wrote {
			letter += 'a' - 'A'
		}
		event.Cell.Row = int(letter - 'a')
		l = append(l, event)
	}
	return l
}

func TestSplit(t *testing.T) { // Promise 22.3: each end of a piece by itself and with the others, at the first event, at the last, side by side.
	for text, want := range map[string][]string{
		"a": {"a"}, "A": {"A"},
		"aaa": {"aaa"}, "aaA": {"aaA"}, "AAA": {"A", "A", "A"},
		"aAa": {"aA", "a"}, "Aaa": {"A", "aa"}, "aAaA": {"aA", "aA"},
		"ab": {"a", "b"}, "aab": {"aa", "b"}, "abb": {"a", "bb"}, "aabbc": {"aa", "bb", "c"},
		"aba": {"a", "b", "a"}, "AB": {"A", "B"}, "aB": {"a", "B"}, "Ab": {"A", "b"},
		"aAbBcC": {"aA", "bB", "cC"}, "aAbbaA": {"aA", "bb", "aA"}, "aaAAbbA": {"aaA", "A", "bb", "A"},
	} {
		var pieces [][]api.Event
		for _, piece := range want {
			pieces = append(pieces, of(piece))
		}
		splitsTo(t, of(text), pieces...)
	}
}

func TestSplitNone(t *testing.T) { // Promise 22.3, R3: no events have no pieces, nil or empty.
	for _, l := range [][]api.Event{nil, {}, make([]api.Event, 0, 3)} {
		splitsTo(t, l)
	}
}

func TestSplitCells(t *testing.T) { // Promise 22.3: cells are others by their sheet, row or column, be they cells or not.
	for _, other := range append(strange(), at("T!A1"), at("A2"), at("B1")) {
		a, b := api.Event{}, api.Event{Cell: other}
		splitsTo(t, []api.Event{a, a, b, b, a}, []api.Event{a, a}, []api.Event{b, b}, []api.Event{a})
	}
}

func TestSplitLooksAtNothingElse(t *testing.T) { // Promise 22.3: what else events say, right or not, ends no piece, and is told as it is.
	l := []api.Event{{}, {Reads: true, Read: at("B9"), V: n(1)}, {Reads: true, Read: api.Cell{Row: -9}}, {Read: at("C1")}, {V: wrongs()[0]}, {V: txt("x"), Reads: true}, {Wrote: true, Reads: true, Read: at("T!A1"), V: bad(77)}, {V: n(3)}}
	splitsTo(t, l, l[:7], l[7:])
}

func TestSplitPieces(t *testing.T) { // Promise 22.3: of very many events: no piece is empty, all of them one behind the other are the events; within a piece one cell, nothing wrote but its last; between two there is a reason.
	r := rand.New(rand.NewSource(2203))
	long := 0
	for range 2000 {
		var l []api.Event
		for range r.Intn(40) {
			l = append(l, api.Event{Cell: api.Cell{Col: r.Intn(2)}, Wrote: r.Intn(3) == 0, V: n(r.Intn(99))})
		}
		got := Split(l...)
		if !slices.Equal(slices.Concat(got...), l) {
			t.Fatalf("%v in pieces: %v", l, got)
		}
		for i, piece := range got {
			last := len(piece) - 1
			for k, e := range piece {
				if e.Cell != piece[0].Cell || e.Wrote && k < last {
					t.Fatalf("%v in pieces: %v", l, got)
				}
			}
			if last < 0 || i+1 < len(got) && !piece[last].Wrote && got[i+1][0].Cell == piece[last].Cell {
				t.Fatalf("%v in pieces: %v", l, got)
			}
			long = max(long, last)
		}
	}
	if long < 4 {
		t.Error(long)
	}
}

func TestPiecesGivenUp(t *testing.T) { // Whoever goes through pieces may stop at any, and begin again.
	l := of("aAbBcC")
	ranged := pieces(l)
	for range 2 {
		count := 0
		for piece := range ranged {
			if count++; !slices.Equal(piece, l[2*count-2:2*count]) {
				t.Error(count, piece)
			}
			if count == 2 {
				break
			}
		}
		if count != 2 {
			t.Error(count)
		}
	}
}
