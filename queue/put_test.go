package queue

import (
	"testing"

	"whittle/api"
)

func TestNew(t *testing.T) { // Promise 14.1: at first none waits, and nothing is seen.
	q := New()
	waits(t, q, "")
	for _, c := range universe() {
		noLevel(t, q, c)
		dropped(t, q, c, false)
	}
	waits(t, q, "")
	q.Put(at("B2"), 1)
	q.Put(at("A1"), 2)
	waits(t, q, "B2 A1")
}

func TestPutNew(t *testing.T) { // Promise 14.1: what does not wait waits, with that level; the others stay.
	q := New()
	q.Put(at("C3"), 4)
	waits(t, q, "C3")
	levelIs(t, q, at("C3"), 4)
	noLevel(t, q, at("A1"))
	q.Put(at("T!A1"), 3)
	waits(t, q, "T!A1 C3")
	levelIs(t, q, at("C3"), 4)
	levelIs(t, q, at("T!A1"), 3)
	noLevel(t, q, at("A1"))
}

func TestPutAgain(t *testing.T) { // Promise 14.1: where it waited already it has the new level from now on, and waits once.
	for _, x := range []struct {
		cell  string
		level int
		want  string
	}{
		{"A1", 1, "A1 B1 C1 D1"}, {"A1", 0, "A1 B1 C1 D1"}, {"A1", 2, "A1 B1 C1 D1"}, {"A1", 3, "B1 A1 C1 D1"}, {"A1", 9, "B1 C1 D1 A1"},
		{"B1", 2, "A1 B1 C1 D1"}, {"B1", 1, "A1 B1 C1 D1"}, {"B1", 0, "B1 A1 C1 D1"}, {"B1", least, "B1 A1 C1 D1"}, {"B1", 3, "A1 B1 C1 D1"}, {"B1", most, "A1 C1 D1 B1"},
		{"D1", 4, "A1 B1 C1 D1"}, {"D1", 2, "A1 B1 D1 C1"}, {"D1", 1, "A1 D1 B1 C1"}, {"D1", 0, "D1 A1 B1 C1"}, {"D1", 5, "A1 B1 C1 D1"},
	} {
		q := with("A1", 1, "B1", 2, "C1", 3, "D1", 4)
		q.Put(at(x.cell), x.level)
		waits(t, q, x.want)
		levelIs(t, q, at(x.cell), x.level)
		q.Put(at(x.cell), x.level)
		waits(t, q, x.want)
		levelIs(t, q, at(x.cell), x.level)
	}
}

func TestPutAgainSeen(t *testing.T) { // Promises 14.1, 14.2: a new level moves a cell among those that are seen alone, and the others likewise.
	for _, x := range []struct {
		cell  string
		level int
		want  string
	}{
		{"A1", 7, "A1 A2 B1 B2"}, {"A1", most, "A2 A1 B1 B2"}, {"A1", least, "A1 A2 B1 B2"},
		{"A2", 7, "A1 A2 B1 B2"}, {"A2", 6, "A2 A1 B1 B2"}, {"A2", 9, "A1 A2 B1 B2"},
		{"B2", least, "A1 A2 B2 B1"}, {"B2", 2, "A1 A2 B1 B2"}, {"B1", 3, "A1 A2 B2 B1"}, {"B1", most, "A1 A2 B2 B1"},
	} {
		q := with("A1", 7, "A2", 8, "B1", 1, "B2", 2)
		q.See(area("A1:A9"))
		q.Put(at(x.cell), x.level)
		waits(t, q, x.want)
		levelIs(t, q, at(x.cell), x.level)
	}
}

func TestPutNewSeen(t *testing.T) { // Promises 14.1, 14.2: what is put behind See is seen, too.
	q := New()
	q.See(areas("A1:A9 T!A1:B2")...)
	for _, name := range []string{"B1", "T!C1", "A9", "A10", "T!B2", "A1"} {
		q.Put(at(name), 1)
	}
	waits(t, q, "A1 A9 T!B2 B1 A10 T!C1")
}

func TestPutAnyCell(t *testing.T) { // Promise 14.1: any cell, right or not, is taken as it is.
	q, m := New(), newModel()
	for i, c := range universe() {
		q.Put(c, i%3-1)
		m.put(c, i%3-1)
		agrees(t, q, m, universe())
	}
	q.See(wrong()...)
	agrees(t, q, m, universe())
	for i, c := range universe() {
		level, _ := q.Level(c)
		if level != i%3-1 {
			t.Errorf("Level(%v): %d", c, level)
		}
		dropped(t, q, c, true)
		dropped(t, q, c, false)
		m.drop(c)
		agrees(t, q, m, universe())
	}
}

func TestPutAnyLevel(t *testing.T) { // Promise 14.1: any level, the least and the greatest int too; levels are held against each other without a sum that wraps round.
	rising := []int{least, least + 1, -1 << 32, -2, -1, 0, 1, 2, 1 << 32, most - 1, most}
	q := New()
	for i := range rising {
		k := (i*7 + 3) % len(rising) // neither rising nor falling
		q.Put(api.Cell{Row: len(rising) - k}, rising[k])
	}
	for i, c := range q.Cells() {
		if c.Row != len(rising)-i {
			t.Errorf("at %d stands %v", i, c)
		}
		levelIs(t, q, c, rising[i])
	}
	q.Put(at("Z99"), 0)
	levelIs(t, q, at("Z99"), 0)
}

func TestLevelZero(t *testing.T) { // Promise 14.2: the level 0 of a cell that waits is told beside true.
	q := with("A1", 0)
	levelIs(t, q, at("A1"), 0)
	noLevel(t, q, at("A2"))
	q.Drop(at("A1"))
	noLevel(t, q, at("A1"))
}
