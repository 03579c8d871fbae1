package queue

import (
	"math/rand"
	"slices"
	"testing"

	"whittle/api"
)

// roomy is a list with spare room in which something stands, and the whole of it.
func roomy[E any](l []E, spare ...E) (short, whole []E) {
	whole = append(slices.Clone(l), spare...)
	return whole[:len(l)], whole
}

// fill writes over a list, its spare room too.
func fill[E any](l []E, with E) {
	l = l[:cap(l)]
	for i := range l {
		l[i] = with
	}
}

func TestSeeHandedIn(t *testing.T) { // R3: areas are not changed, spare room included, and not kept.
	r := rand.New(rand.NewSource(1406))
	room := area("A1:Z99")
	for range 60 {
		q, m := New(), newModel()
		l, whole := roomy(randomAreas(r), room, room, room)
		was := slices.Clone(whole)
		for i := range 30 {
			if i == 15 {
				q.See(l...)
				m.see(l...)
			}
			c, level := randomCell(r), randomLevel(r)
			q.Put(c, level)
			m.put(c, level)
		}
		agrees(t, q, m, nil)
		if !slices.Equal(whole, was) {
			t.Fatalf("%v, handed in as %v", whole, was)
		}
		fill(whole, area("B2:C3"))
		agrees(t, q, m, universe())
		// What comes behind hangs on what was seen, not on what stands in that list now.
		for range 20 {
			c, level := randomCell(r), randomLevel(r)
			q.Put(c, level)
			m.put(c, level)
		}
		agrees(t, q, m, universe())
		if slices.Contains(whole, room) {
			t.Fatal("what was written over was changed")
		}
	}
}

func TestSeeNil(t *testing.T) { // R3: nil and an empty list are one.
	for _, l := range [][]api.Area{nil, {}, make([]api.Area, 0, 9)} {
		q := seven()
		q.See(l...)
		waits(t, q, "C7 B1 T!A1 B2 A2 A3 A1")
	}
}

func TestCellsAreNewMemory(t *testing.T) { // R3: what Cells answers may be written over and grown; no two answers share any.
	q := seven()
	ahead := tells(q)
	one, two := q.Cells(), q.Cells()
	fill(one, at("Z99"))
	if names(two) != sevenInOrder || tells(q) != ahead {
		t.Errorf("%s, %s", names(two), tells(q))
	}
	two = append(two, at("Y9"), at("Y8"))
	two[0] = at("X1")
	two = two[:1]
	two = append(two, at("X2"), at("X3"))
	if tells(q) != ahead {
		t.Error(tells(q))
	}
	q.Put(at("D1"), 1)
	q.See()
	q.Drop(at("A1"))
	if names(two) != "X1 X2 X3" || one[0] != at("Z99") {
		t.Error(names(one), names(two))
	}
	waits(t, q, "C7 B1 D1 T!A1 B2 A2 A3")
}

func TestCellsStay(t *testing.T) { // R3: what was told stays as it was told, whatever comes.
	q := seven()
	told := q.Cells()
	q.Put(at("A1"), -9)
	q.Drop(at("C7"))
	q.See()
	for i := range 99 {
		q.Put(api.Cell{Row: i, Col: 9}, -i)
	}
	if names(told) != sevenInOrder {
		t.Error(names(told))
	}
}

func TestNothingInCommon(t *testing.T) { // R4: two queues side by side.
	r := rand.New(rand.NewSource(1407))
	queues, models := []*Queue{New(), New(), New()}, []*model{newModel(), newModel(), newModel()}
	for range 300 {
		k := r.Intn(len(queues))
		q, m, c := queues[k], models[k], randomCell(r)
		switch r.Intn(5) {
		case 0:
			l := randomAreas(r)
			q.See(l...)
			m.see(l...)
		case 1:
			dropped(t, q, c, m.drop(c))
		default:
			level := randomLevel(r)
			q.Put(c, level)
			m.put(c, level)
		}
		for i := range queues {
			agrees(t, queues[i], models[i], universe())
		}
	}
}

func TestOneListForTwo(t *testing.T) { // R4: two queues that were given one list of areas go on by themselves.
	l := areas("A1:A9 B2:B2")
	one, two := New(), New()
	one.See(l...)
	two.See(l...)
	for _, q := range []*Queue{one, two} {
		q.Put(at("A1"), 5)
		q.Put(at("B1"), 1)
	}
	one.See()
	waits(t, one, "B1 A1")
	waits(t, two, "A1 B1")
	two.Drop(at("A1"))
	waits(t, one, "B1 A1")
}
