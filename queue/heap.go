package queue

import "slices"

// entry is what a heap holds: it is known by a key, and stands ahead of others (below 0), or behind them (above 0).
type entry[K comparable, E any] interface {
	key() K
	compare(E) int
}

// heap is entries, one a key, of which none stands ahead of its parent: that of the one at i is at (i - 1) / 2.
type heap[K comparable, E entry[K, E]] struct {
	row []E
	at  map[K]int // where in the row each key stands, so that an entry in its midst is found, too
}

func newHeap[K comparable, E entry[K, E]]() *heap[K, E] { return &heap[K, E]{at: map[K]int{}} }

// put lays an entry, in the place of the one of its key, if there is one.
func (h *heap[K, E]) put(e E) {
	i, old := h.at[e.key()]
	if !old {
		i = len(h.row)
		h.row = append(h.row, e)
	}
	h.lay(i, e)
	h.settle(i)
}

// drop takes the entry of a key away; false, if there is none.
func (h *heap[K, E]) drop(k K) bool {
	i, is := h.at[k]
	if !is {
		return false
	}
	end := len(h.row) - 1
	last := h.row[end]
	h.row = slices.Delete(h.row, end, end+1)
	delete(h.at, k)
	if i < end {
		h.lay(i, last)
		h.settle(i)
	}
	return true
}

// of is the entry of a key; false, if there is none.
func (h *heap[K, E]) of(k K) (e E, is bool) {
	i, is := h.at[k]
	if is {
		e = h.row[i]
	}
	return e, is
}

// first is the entry ahead of all others; false, if there is none.
func (h *heap[K, E]) first() (e E, is bool) {
	if len(h.row) == 0 {
		return e, false
	}
	return h.row[0], true
}

func (h *heap[K, E]) size() int { return len(h.row) }

// sorted is all entries, the first ahead.
func (h *heap[K, E]) sorted() []E {
	row := slices.Clone(h.row)
	slices.SortFunc(row, func(a, b E) int { return a.compare(b) })
	return row
}

// turn makes of each entry another one of the same key.
func (h *heap[K, E]) turn(to func(E) E) {
	for i, e := range h.row {
		h.row[i] = to(e)
	}
	// From the last parent on backwards, so that what lies below one is a heap when it sinks.
	for i := len(h.row)/2 - 1; i >= 0; i-- {
		h.sink(i)
	}
}

// settle brings the one entry that may stand wrongly to its place.
func (h *heap[K, E]) settle(i int) { h.sink(h.rise(i)) }

// rise changes an entry with its parent, as long as it stands ahead of it; the answer is where it comes to.
func (h *heap[K, E]) rise(i int) int {
	for i > 0 && h.ahead(i, (i-1)/2) {
		h.swap(i, (i-1)/2)
		i = (i - 1) / 2
	}
	return i
}

// sink changes an entry with the first one below it, as long as that stands ahead of it.
func (h *heap[K, E]) sink(i int) {
	for {
		first := i
		for k := 2*i + 1; k <= 2*i+2 && k < len(h.row); k++ {
			if h.ahead(k, first) {
				first = k
			}
		}
		if first == i {
			return
		}
		h.swap(i, first)
		i = first
	}
}

// ahead: does the entry at i stand ahead of the one at k?
func (h *heap[K, E]) ahead(i, k int) bool { return h.row[i].compare(h.row[k]) < 0 }

func (h *heap[K, E]) swap(i, k int) {
	a, b := h.row[i], h.row[k]
	h.lay(i, b)
	h.lay(k, a)
}

// lay puts an entry at i, and keeps in mind where it stands.
func (h *heap[K, E]) lay(i int, e E) {
	h.row[i] = e
	h.at[e.key()] = i
}
