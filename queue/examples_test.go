package queue

import "testing"

// The rows of the chapter's examples go on from one to the next.

func exampleOne() *Queue { return with("A1", 2, "B1", 1, "A2", 1) }

func exampleTwo() *Queue {
	q := exampleOne()
	q.See(area("A1:A9"))
	return q
}

func exampleThree() *Queue {
	q := exampleTwo()
	q.Put(at("A1"), 0)
	q.See()
	return q
}

func TestExampleCells(t *testing.T) { waits(t, exampleOne(), "B1 A2 A1") }

func TestExampleSee(t *testing.T) { waits(t, exampleTwo(), "A2 A1 B1") }

func TestExampleSeeNothing(t *testing.T) { waits(t, exampleThree(), "A1 B1 A2") }

func TestExampleDrop(t *testing.T) {
	q := exampleThree()
	dropped(t, q, at("B1"), true)
	dropped(t, q, at("B1"), false)
	noLevel(t, q, at("B1"))
	waits(t, q, "A1 A2")
}
