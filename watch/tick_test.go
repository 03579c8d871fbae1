package watch

import (
	"testing"

	"whittle/api"
)

// stepwise are the ways of doing a step of a task.
func stepwise() map[string]func(x *Watch, task int) int {
	return map[string]func(x *Watch, task int) int{
		"Tick": func(x *Watch, task int) int {
			k, _ := x.Tick(task, 1)
			return k
		},
		"Trace": func(x *Watch, task int) int {
			l, _ := x.Trace(task, 1)
			return len(l)
		},
	}
}

func TestStepsThatWrite(t *testing.T) { // Promises 18.2, 18.4: each step that writes a cell makes the moment one more, and touches just that cell; each other step turns no moment.
	for way, step := range stepwise() {
		x := opened(t, "A1", "2", "B1", "=A1+3", "C1", "=SUM(A1:B1)", "A2", "=C1", "T!A1", "=S!B1", "T!B1", "=T!A1", "U!A1", "=7")
		for task := 0; x.Count() > 0; task = (task + 1) % 3 {
			moment, stale := x.Moment(), x.Count()
			next, is := x.Next(task)
			if k := step(x, task); k == 1 != is {
				t.Fatalf("%s: %d steps of the task %d", way, k, task)
			}
			if x.Count() == stale {
				momentIs(t, x, moment)
				continue
			}
			momentIs(t, x, moment+1)
			sinceIs(t, x, moment, names(next))
		}
		momentIs(t, x, 1+6)
	}
}

func TestTicksThatWriteMany(t *testing.T) { // Promise 18.2: a tick, or a trace, that writes several cells makes as many moments, in the order in which they are written.
	for _, do := range []func(x *Watch, task, budget int) int{
		func(x *Watch, task, budget int) int { k, _ := x.Tick(task, budget); return k },
		func(x *Watch, task, budget int) int { l, _ := x.Trace(task, budget); return len(l) },
	} {
		x := settled(t, "A1", "2", "C1", "=A1", "B1", "=C1+1", "A2", "=B1", "B2", "=A1", "T!A1", "=S!A2", "U!A1", "=S!C1")
		edited(t, x, "A1", "3")
		m := x.Moment()
		// By level: C1 and B2, B1, A2; T's and U's are not this task's.
		if k := do(x, 0, api.MaxTrace); k != 2+2+4+2 {
			t.Error(k)
		}
		momentIs(t, x, m+4)
		for i, want := range []string{"B1 C1 A2 B2", "B1 A2 B2", "B1 A2", "A2", ""} {
			sinceIs(t, x, m+i, want)
		}
		if k := do(x, 2, 9); k != 2 {
			t.Error(k)
		}
		sinceIs(t, x, m+3, "A2 U!A1")
		if k := do(x, 1, 1); k != 1 {
			t.Error(k)
		}
		momentIs(t, x, m+5)
		if k := do(x, 1, 1); k != 1 {
			t.Error(k)
		}
		momentIs(t, x, m+6)
		sinceIs(t, x, m+4, "T!A1 U!A1")
	}
}

func TestTicksInSlices(t *testing.T) { // Promise 18.2, 16.12: ticks in slices of any size, traces between, make the moments that one tick makes.
	l := []string{"A1", "2", "B1", "=A1+3", "C1", "=SUM(A1:B9)", "A2", "=C1*B1", "B2", "=5", "A3", "=IF(A1,1,B1)"}
	whole := opened(t, l...)
	ticked(t, whole, 0, 1<<62, workOf(t, whole))
	for slice := 1; slice < 40; slice++ {
		x := opened(t, l...)
		for x.Count() > 0 {
			x.Tick(0, slice)
			traced(t, x, 0, slice/2)
		}
		if tells(x) != tells(whole) {
			t.Fatalf("in slices of %d: %s, want %s", slice, tells(x), tells(whole))
		}
	}
}

// workOf is how many steps the task 0 of a watch has to do, as its view's state goes on to do them.
func workOf(t *testing.T, x *Watch) int {
	t.Helper()
	v := viewOf(t, x)
	k, why := v.Tick(0, 1<<62)
	if why != api.OK {
		t.Fatal(why)
	}
	return k
}

func TestTicksThatWriteNothing(t *testing.T) { // Promise 18.4: ticks and traces that end no frame, that have nothing to do, or a budget of 0, turn no moment.
	x := opened(t, "A1", "=SUM(B1:B9)", "T!A1", "=S!A1")
	for range 11 { // open, nine cells, close
		ticked(t, x, 0, 0, 0)
		ticked(t, x, 1, 1<<62, 0)
		ticked(t, x, 2, 1<<62, 0)
		ticked(t, x, 0, 1, 1)
		if l := traced(t, x, 0, 0); len(l) != 0 {
			t.Error(l)
		}
		momentIs(t, x, 1)
		sinceIs(t, x, 0, "A1 T!A1")
	}
	parkedIs(t, x, 0, "A1", 11)
	ticked(t, x, 0, 1, 1)
	momentIs(t, x, 2)
	sinceIs(t, x, 1, "A1")
	ticked(t, x, 0, 1<<62, 0)
	momentIs(t, x, 2)
}

func TestTicksAndTracesAnswer(t *testing.T) { // Promise 18.1: Tick and Trace do what the view's do, and answer it, refusals too, which turn no moment.
	x := opened(t, "A1", "2", "B1", "=A1+A1", "C1", "=B1")
	for _, task := range oddTasks() {
		for _, budget := range []int{-1 << 63, -1, 0, 1, api.MaxTrace, api.MaxTrace + 1, 1<<63 - 1} {
			if k, why := x.Tick(task, budget); k != 0 || why != api.ErrTask {
				t.Errorf("Tick(%d, %d): %d, %d", task, budget, k, why)
			}
			if l, why := x.Trace(task, budget); len(l) != 0 || why != api.ErrTask {
				t.Errorf("Trace(%d, %d): %v, %d", task, budget, l, why)
			}
		}
	}
	for _, budget := range []int{-1, -api.MaxTrace, -1 << 63} {
		if k, why := x.Tick(0, budget); k != 0 || why != api.ErrBudget {
			t.Error(k, why)
		}
		if l, why := x.Trace(0, budget); len(l) != 0 || why != api.ErrBudget {
			t.Error(l, why)
		}
	}
	if l, why := x.Trace(0, api.MaxTrace+1); len(l) != 0 || why != api.ErrBudget {
		t.Error(l, why)
	}
	parkedIs(t, x, 0, "", 0)
	momentIs(t, x, 1)
	l := traced(t, x, 0, 2)
	if len(l) != 2 || l[0] != (api.Event{Cell: at("B1"), Reads: true, Read: at("A1"), V: n(2)}) || l[1] != l[0] {
		t.Error(l)
	}
	parkedIs(t, x, 0, "B1", 2)
	momentIs(t, x, 1)
	ticked(t, x, 0, 1, 1)
	l = traced(t, x, 0, api.MaxTrace)
	if len(l) != 3 || l[0] != (api.Event{Cell: at("B1"), Wrote: true, V: n(4)}) || l[2] != (api.Event{Cell: at("C1"), Wrote: true, V: n(4)}) {
		t.Error(l)
	}
	momentIs(t, x, 3)
	sinceIs(t, x, 1, "B1 C1")
	sinceIs(t, x, 2, "C1")
	edited(t, x, "A1", "3")
	ticked(t, x, 0, 1<<63-1, 6)
	momentIs(t, x, 6)
	reads(t, x, "C1", fresh(n(6), 2))
}

func TestTickOfFramesThatEditsLeave(t *testing.T) { // Promise 18.2: an edit between two ticks that leaves a frame be, or aborts it: the cell is touched when the frame that goes on, or the new one, writes it.
	x := opened(t, "A1", "=SUM(B1:B9)")
	ticked(t, x, 0, 10, 10)
	touches(t, x, "D1", "D1", "=1")
	ticked(t, x, 0, 2, 2)
	momentIs(t, x, 3)
	sinceIs(t, x, 2, "A1")
	touches(t, x, "A1", "A1", "=SUM(B1:B9)")
	seen(t, x, 0, "A1")
	ticked(t, x, 0, 11, 11)
	touches(t, x, "B9", "B9", "5")
	abortedIs(t, x, "A1")
	ticked(t, x, 0, 11, 11)
	momentIs(t, x, 5)
	ticked(t, x, 0, 1, 1)
	momentIs(t, x, 6)
	sinceIs(t, x, 5, "A1")
	reads(t, x, "A1", fresh(n(5), 4))
}

func TestWrittenAsBefore(t *testing.T) { // Promise 18.2: a cell is touched by the step that writes it, though it is written what it told.
	x := settled(t, "A1", "2", "B1", "=A1*0")
	touches(t, x, "A1 B1", "A1", "3")
	reads(t, x, "B1", old(n(0), 1))
	m := x.Moment()
	ticked(t, x, 0, 9, 4)
	momentIs(t, x, m+1)
	sinceIs(t, x, m, "B1")
	reads(t, x, "B1", fresh(n(0), 2))
}
