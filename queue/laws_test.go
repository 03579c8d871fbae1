package queue

import (
	"math/rand"
	"slices"
	"testing"

	"whittle/api"
)

// randomAreas are up to four, right ones most of all.
func randomAreas(r *rand.Rand) []api.Area {
	var l []api.Area
	for range r.Intn(5) {
		if r.Intn(6) == 0 {
			l = append(l, wrong()[r.Intn(len(wrong()))])
			continue
		}
		a := api.Area{Sheet: r.Intn(3), Top: r.Intn(4), Left: r.Intn(3)}
		a.Bottom, a.Right = a.Top+r.Intn(3), a.Left+r.Intn(3)
		l = append(l, a)
	}
	return l
}

// randomLevel is one of few, or of the ends.
func randomLevel(r *rand.Rand) int {
	if r.Intn(8) == 0 {
		return []int{least, -1, most}[r.Intn(3)]
	}
	return r.Intn(4)
}

// randomCell is one of the universe, mostly one of a few, so that they meet again.
func randomCell(r *rand.Rand) api.Cell {
	l := universe()
	if r.Intn(2) == 0 {
		l = l[10:24]
	}
	return l[r.Intn(len(l))]
}

func TestLawModel(t *testing.T) { // Promises 14.1, 14.2: behind every call, whatever comes, a queue tells what the chapter's words say.
	r := rand.New(rand.NewSource(1403))
	for range 60 {
		q, m := New(), newModel()
		for range 120 {
			c := randomCell(r)
			switch r.Intn(9) {
			case 0:
				l := randomAreas(r)
				q.See(l...)
				m.see(l...)
			case 1, 2, 3:
				dropped(t, q, c, m.drop(c))
			default:
				level := randomLevel(r)
				q.Put(c, level)
				m.put(c, level)
			}
			agrees(t, q, m, universe())
			sound(t, q)
		}
	}
}

func TestLawOrderOfPuts(t *testing.T) { // Promise 14.3: neither the order of Puts, nor cells and views that came and went between, turn what is told.
	r := rand.New(rand.NewSource(1404))
	for range 60 {
		m := newModel()
		m.see(randomAreas(r)...)
		for range r.Intn(40) {
			m.put(randomCell(r), randomLevel(r))
		}
		cells := m.cells()
		want := New()
		want.See(m.areas...)
		for _, c := range cells {
			want.Put(c, m.levels[c])
		}
		for range 5 {
			r.Shuffle(len(cells), func(i, k int) { cells[i], cells[k] = cells[k], cells[i] })
			q := roundabout(r, m, cells)
			if one, two := tells(q), tells(want); one != two {
				t.Fatalf("%s\nand of the same cells\n%s", one, two)
			}
		}
	}
}

// roundabout is a queue that comes to a model's cells, in this order, with others between that are dropped again, other levels and other views.
func roundabout(r *rand.Rand, m *model, cells []api.Cell) *Queue {
	q := New()
	for _, c := range cells {
		if r.Intn(3) == 0 {
			q.See(randomAreas(r)...)
		}
		if x := randomCell(r); r.Intn(2) == 0 && !waitsIn(m, x) {
			q.Put(x, randomLevel(r))
		}
		if r.Intn(2) == 0 {
			q.Put(c, randomLevel(r))
		}
		if r.Intn(4) == 0 {
			q.Drop(c)
		}
		q.Put(c, m.levels[c])
	}
	for _, x := range q.Cells() {
		if !waitsIn(m, x) {
			q.Drop(x)
		}
	}
	q.See(m.areas...)
	return q
}

func waitsIn(m *model, c api.Cell) bool {
	_, is := m.levels[c]
	return is
}

func TestLawEveryOrder(t *testing.T) { // Promise 14.3: five cells in each of their 120 orders.
	cells, levels := list("A1 B1 A2 T!A1 B2"), []int{2, 1, 1, 1, 0}
	count := 0
	var try func(chosen []int)
	try = func(chosen []int) {
		if len(chosen) == len(cells) {
			count++
			q := New()
			for _, i := range chosen {
				q.Put(cells[i], levels[i])
			}
			waits(t, q, "B2 B1 A2 T!A1 A1")
			q.See(area("A1:A9"))
			waits(t, q, "A2 A1 B2 B1 T!A1")
			return
		}
		for i := range cells {
			if !slices.Contains(chosen, i) {
				try(append(slices.Clone(chosen), i))
			}
		}
	}
	try(nil)
	if count != 120 {
		t.Error(count)
	}
}

func TestLawAskedBetween(t *testing.T) { // R4: what was asked between calls turns nothing.
	r := rand.New(rand.NewSource(1405))
	for range 30 {
		asked, quiet := New(), New()
		for range 60 {
			c, level, l := randomCell(r), randomLevel(r), randomAreas(r)
			kind := r.Intn(6)
			for _, q := range []*Queue{asked, quiet} {
				switch kind {
				case 0:
					q.See(l...)
				case 1:
					q.Drop(c)
				default:
					q.Put(c, level)
				}
			}
			tells(asked)
		}
		if tells(asked) != tells(quiet) {
			t.Fatal("a queue that was asked tells otherwise")
		}
	}
}
