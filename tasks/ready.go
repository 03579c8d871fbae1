package tasks

import (
	"whittle/api"
	"whittle/queue"
)

// first is the ready cell of a task's sheet that goes ahead of all others; false, if there is none.
func (t *Tasks) first(task int) (api.Cell, bool) {
	// Done is promoted: if others than a tick have called it, the queues don't know of that; nor of what a state said.
	if t.known != t.Count() {
		t.queueAnew()
	}
	return t.queues[task].First()
}

// queueAnew lays all cells that are ready into new queues.
func (t *Tasks) queueAnew() {
	for task := range t.queues {
		t.queues[task] = queue.New()
		t.queues[task].See(t.views[task]...)
		for _, c := range t.ReadyOf(task) {
			t.queueUp(c)
		}
	}
	t.known = t.Count()
}

// queueUp lets a cell wait in its task's queue just if it is ready, on the level that it has now.
func (t *Tasks) queueUp(c api.Cell) {
	if q := t.queues[c.Sheet]; t.Ready(c) {
		q.Put(c, t.Level(c))
	} else {
		q.Drop(c)
	}
}
