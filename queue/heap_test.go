package queue

import (
	"cmp"
	"math/rand"
	"slices"
	"strings"
	"testing"

	"whittle/api"
)

// word is an entry of another kind than waiters: its key is its text.
type word struct {
	text   string
	weight float64
}

func (w word) key() string { return w.text }

func (w word) compare(x word) int {
	return cmp.Or(cmp.Compare(w.weight, x.weight), strings.Compare(w.text, x.text))
}

// sound holds that none stands ahead of its parent, and that each key is known where it stands.
func sound(t *testing.T, q *Queue) {
	t.Helper()
	rightHeap(t, q.waiting)
}

func rightHeap[K comparable, E entry[K, E]](t *testing.T, h *heap[K, E]) {
	t.Helper()
	if len(h.at) != len(h.row) {
		t.Fatalf("%d keys of %d entries", len(h.at), len(h.row))
	}
	for i, e := range h.row {
		if at, is := h.at[e.key()]; at != i || !is {
			t.Fatalf("%v stands at %d, known at %d", e, i, at)
		}
		if i > 0 && e.compare(h.row[(i-1)/2]) < 0 {
			t.Fatalf("%v stands ahead of its parent %v", e, h.row[(i-1)/2])
		}
	}
}

func TestHeap(t *testing.T) { // A heap of any kind of entries: first, of, size and sorted as of a sorted list.
	r := rand.New(rand.NewSource(1408))
	for range 40 {
		h := newHeap[string, word]()
		all := map[string]word{}
		for range 150 {
			w := word{text: string(rune('a' + r.Intn(26))), weight: float64(r.Intn(9)) / 2}
			if r.Intn(3) == 0 {
				_, was := all[w.text]
				if h.drop(w.text) != was {
					t.Fatal("drop of", w)
				}
				delete(all, w.text)
			} else {
				h.put(w)
				all[w.text] = w
			}
			rightHeap(t, h)
			holds(t, h, all)
		}
	}
}

// holds holds a heap against its entries.
func holds(t *testing.T, h *heap[string, word], all map[string]word) {
	t.Helper()
	var want []word
	for _, w := range all {
		want = append(want, w)
	}
	slices.SortFunc(want, word.compare)
	if !slices.Equal(h.sorted(), want) || h.size() != len(want) {
		t.Fatalf("%v, want %v", h.sorted(), want)
	}
	first, is := h.first()
	if is != (len(want) > 0) || is && first != want[0] || !is && first != (word{}) {
		t.Fatalf("first %v of %v", first, want)
	}
	for _, text := range []string{"", "a", "m", "z"} {
		w, is := h.of(text)
		if known, was := all[text]; w != known || is != was {
			t.Fatalf("of %q: %v, want %v", text, w, known)
		}
	}
}

func TestHeapTurn(t *testing.T) { // Of each entry another one: it is a heap behind that, whatever they become, of any size.
	r := rand.New(rand.NewSource(1409))
	for size := range 40 {
		h := newHeap[string, word]()
		all := map[string]word{}
		for i := range size {
			h.put(word{text: string(rune('A' + i)), weight: r.Float64()})
		}
		h.turn(func(w word) word {
			w.weight = float64(r.Intn(9)) - w.weight
			all[w.text] = w
			return w
		})
		rightHeap(t, h)
		holds(t, h, all)
	}
}

func TestNothingIsKept(t *testing.T) { // A queue that was emptied knows of no cell, and See of nothing of no area.
	q := seven()
	for _, c := range q.Cells() {
		q.Drop(c)
	}
	q.See()
	if len(q.waiting.row) != 0 || len(q.waiting.at) != 0 || len(q.areas) != 0 {
		t.Error(q.waiting, q.areas)
	}
	for _, w := range q.waiting.row[:cap(q.waiting.row)] {
		if w != (waiter{}) {
			t.Error("what was dropped is kept:", w)
		}
	}
}

func TestWaiters(t *testing.T) { // compare is an order by lane, level and cell: of any two, and the other way round.
	rising := []waiter{
		{cell: api.Cell{Row: 9}, lane: seen, level: least}, {cell: api.Cell{}, lane: seen, level: 3}, {cell: api.Cell{Col: 1}, lane: seen, level: 3}, {cell: api.Cell{}, lane: seen, level: most},
		{cell: api.Cell{Sheet: 1}, lane: unseen, level: least}, {cell: api.Cell{Row: 1}, lane: unseen, level: -1}, {cell: api.Cell{Sheet: 1}, lane: unseen, level: -1}, {cell: api.Cell{}, lane: unseen, level: most},
	}
	for i, a := range rising {
		for k, b := range rising {
			if got := a.compare(b); got < 0 != (i < k) || got > 0 != (i > k) {
				t.Errorf("%v and %v: %d", a, b, got)
			}
		}
	}
}
