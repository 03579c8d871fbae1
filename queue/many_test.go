package queue

import (
	"math/rand"
	"slices"
	"testing"

	"whittle/api"
)

const many = 20000

// crowd is very many cells, the model in which they wait, and what is seen of them.
func crowd(r *rand.Rand) ([]api.Cell, *model) {
	m := newModel()
	m.see(area("A1:C99"), area("T!B1:Z200"), area("U!A1:A1"))
	for len(m.levels) < many {
		m.put(api.Cell{Sheet: r.Intn(4), Row: r.Intn(1500), Col: r.Intn(30) - 1}, r.Intn(40)-5)
	}
	return m.cells(), m
}

// drain takes the first one till none waits.
func drain(t *testing.T, q *Queue) []api.Cell {
	t.Helper()
	var l []api.Cell
	for c, ok := q.First(); ok; c, ok = q.First() {
		l = append(l, c)
		if !q.Drop(c) || len(l) > 4*many {
			t.Fatalf("First %v, and it does not wait; or no end", c)
		}
	}
	if q.Len() != 0 || len(q.Cells()) != 0 {
		t.Fatal("none is first, and some wait:", q.Len())
	}
	return l
}

func TestMany(t *testing.T) { // Promises 14.2, 14.3: very many, put in rising, falling and mixed order, told and drained as a sorted list.
	r := rand.New(rand.NewSource(1401))
	rising, m := crowd(r)
	falling, mixed := slices.Clone(rising), slices.Clone(rising)
	slices.Reverse(falling)
	r.Shuffle(len(mixed), func(i, k int) { mixed[i], mixed[k] = mixed[k], mixed[i] })
	for _, l := range [][]api.Cell{rising, falling, mixed} {
		for _, half := range []int{0, many / 2, many} {
			q := New()
			for i, c := range l {
				if i == half {
					q.See(m.areas...)
				}
				q.Put(c, m.levels[c])
			}
			q.See(m.areas...)
			if !slices.Equal(q.Cells(), rising) || q.Len() != many {
				t.Fatal("Cells are not in order", q.Len())
			}
			if !slices.Equal(drain(t, q), rising) {
				t.Fatal("drained otherwise than in order")
			}
		}
	}
}

func TestManyTurned(t *testing.T) { // Promises 14.1, 14.2: very many with new levels, another view, and half of them dropped.
	r := rand.New(rand.NewSource(1402))
	all, m := crowd(r)
	q := New()
	for _, c := range all {
		q.Put(c, r.Intn(99))
	}
	r.Shuffle(len(all), func(i, k int) { all[i], all[k] = all[k], all[i] })
	for i, c := range all {
		q.Put(c, m.levels[c])
		if i%2 == 0 {
			dropped(t, q, c, true)
			m.drop(c)
		}
	}
	for _, seen := range []string{"A1:C99 T!B1:Z200", "", "U!A1:Z999", "A1:IV65536 T!A1:IV65536"} {
		q.See(areas(seen)...)
		m.see(areas(seen)...)
		agrees(t, q, m, all)
	}
	if want := m.cells(); !slices.Equal(drain(t, q), want) {
		t.Error("drained otherwise than in order")
	}
	q.Put(at("A1"), 1)
	waits(t, q, "A1")
}
