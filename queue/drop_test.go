package queue

import (
	"slices"
	"testing"

	"whittle/api"
)

// seven is a queue of cells on several levels, some of them seen.
func seven() *Queue {
	q := with("A1", 5, "B1", 1, "A2", 3, "B2", 2, "A3", 3, "T!A1", 1, "C7", 0)
	q.See(areas("A1:A9 T!B1:B9")...)
	return q
}

const sevenInOrder = "A2 A3 A1 C7 B1 T!A1 B2"

func TestDropOne(t *testing.T) { // Promise 14.1: the first, the last, each in the middle: it waits no more, and the others stay as they were.
	waits(t, seven(), sevenInOrder)
	all := list(sevenInOrder)
	for i, c := range all {
		q, whole := seven(), seven()
		dropped(t, q, c, true)
		noLevel(t, q, c)
		rest := slices.Delete(slices.Clone(all), i, i+1)
		waits(t, q, names(rest))
		for _, x := range rest {
			level, _ := whole.Level(x)
			levelIs(t, q, x, level)
		}
	}
}

func TestDropNone(t *testing.T) { // Promise 14.1: of a cell that does not wait, false, and nothing is turned.
	q := seven()
	ahead := tells(q)
	for _, c := range append(strange(), list("Z9 A4 B3 T!A2 T!B1 U!A1")...) {
		dropped(t, q, c, false)
	}
	if tells(q) != ahead {
		t.Error("Drop of a cell that does not wait turned something")
	}
}

func TestDropTwice(t *testing.T) { // Promise 14.1: the second time it waits no more.
	for _, c := range list(sevenInOrder) {
		q := seven()
		dropped(t, q, c, true)
		ahead := tells(q)
		dropped(t, q, c, false)
		if tells(q) != ahead {
			t.Errorf("a second Drop(%v) turned something", c)
		}
	}
}

func TestDropPutTwice(t *testing.T) { // Promise 14.1: a cell that was put twice waits once.
	q := with("A1", 1, "B1", 2, "A1", 3, "B1", 2)
	waits(t, q, "B1 A1")
	dropped(t, q, at("A1"), true)
	dropped(t, q, at("A1"), false)
	waits(t, q, "B1")
	dropped(t, q, at("B1"), true)
	dropped(t, q, at("B1"), false)
	waits(t, q, "")
}

func TestDropAll(t *testing.T) { // Promise 14.1: all one by one, in any order, and put again behind that.
	all := list(sevenInOrder)
	orders := [][]api.Cell{all, slices.Clone(all), list("A3 B2 C7 A2 T!A1 A1 B1")}
	slices.Reverse(orders[1])
	for _, order := range orders {
		q := seven()
		rest := slices.Clone(all)
		for _, c := range order {
			dropped(t, q, c, true)
			rest = slices.DeleteFunc(rest, func(x api.Cell) bool { return x == c })
			waits(t, q, names(rest))
		}
		for _, c := range all {
			noLevel(t, q, c)
			dropped(t, q, c, false)
		}
		// What is seen stays, though none waited.
		q.Put(at("B2"), 2)
		q.Put(at("A1"), 5)
		waits(t, q, "A1 B2")
		levelIs(t, q, at("A1"), 5)
		levelIs(t, q, at("B2"), 2)
	}
}

func TestDropAndPutAgain(t *testing.T) { // Promise 14.1: a cell that is put again has its new level, and nothing of its old one.
	q := with("A1", 1, "B1", 2, "C1", 3)
	dropped(t, q, at("A1"), true)
	q.Put(at("A1"), 9)
	waits(t, q, "B1 C1 A1")
	levelIs(t, q, at("A1"), 9)
	dropped(t, q, at("A1"), true)
	q.Put(at("A1"), 0)
	waits(t, q, "A1 B1 C1")
	levelIs(t, q, at("A1"), 0)
}
