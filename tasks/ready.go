package tasks

import (
	"whittle/api"
	"whittle/queue"
)

// first is the ready cell of a task's sheet that goes ahead of all others; false, if there is none.
func (t *Tasks) first(task int) (api.Cell, bool) {
	t.catchUp()
	return t.queues[task].First()
}

// catchUp makes the queues right again, if flags were turned past them: by a state, or by others than a tick, since Done is promoted. It comes ahead of all that asks the queues or turns flags itself: from one such moment to the next flags turn by Dones alone, so that the queues are right just if as many cells are stale as they know of.
func (t *Tasks) catchUp() {
	if t.known != t.Count() {
		t.queueAnew()
	}
}

// queueAnew lays all cells that are ready into new queues.
func (t *Tasks) queueAnew() {
	for task := range t.queues {
		t.queues[task] = queue.New()
		t.queues[task].See(t.views[task]...)
		t.queueUp(t.ReadyOf(task)...)
	}
}

// queueUp lets each of the cells wait in its task's queue just if it is ready, on the level that it has now. They are all whose flags or levels have turned since the queues were right.
func (t *Tasks) queueUp(cells ...api.Cell) {
	for _, c := range cells {
		if q := t.queues[c.Sheet]; t.Ready(c) {
			q.Put(c, t.Level(c))
		} else {
			q.Drop(c)
		}
	}
	t.known = t.Count()
}
