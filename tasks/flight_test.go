package tasks

import (
	"testing"

	"whittle/api"
	"whittle/machine"
)

func TestFlightAtEachStep(t *testing.T) { // Promise 16.8: behind each step of a frame, till it ends: its cell, its steps, its machine's State.
	for _, text := range costly() {
		x := opened(t, "A1", "3", "A2", "x", "A3", "TRUE", "B1", "#N/A", "B3", "2", "D1", text)
		c := at("D1")
		f, why := machine.New(x.Code(c))
		if why != api.OK {
			t.Fatal(text, why)
		}
		parkedIs(t, x, 0, "", 0)
		for !f.Done() {
			wants, _ := f.Wants()
			f.Step(x.Value(wants))
			ticked(t, x, 0, 1, 1)
			if f.Done() {
				break
			}
			parkedIs(t, x, 0, "D1", f.Steps())
			if got := x.Flight(0); !sameFlight(got, api.Flight{On: true, Cell: c, Frame: f.State()}) {
				t.Fatalf("%s: %v, want %v", text, got, f.State())
			}
		}
		parkedIs(t, x, 0, "", 0)
		nextIs(t, x, 0, "")
		if v, _ := f.Result(); x.Value(c) != v {
			t.Errorf("%s: %v, want %v", text, x.Value(c), v)
		}
	}
}

func TestFlightOfNone(t *testing.T) { // Promise 16.8: false and zero of a task without a frame, and of no such task.
	x := midway(t)
	for _, task := range oddTasks() {
		parkedIs(t, x, task, "", 0)
	}
	settle(t, x)
	for task := range 3 {
		parkedIs(t, x, task, "", 0)
	}
	edited(t, x, "A1", "=1")
	parkedIs(t, x, 0, "", 0) // ready, and not begun
}

func TestFlightsApart(t *testing.T) { // Promises 16.6, 16.8: each task has a frame of its own, and of one formula's text as well.
	x := opened(t, "A1", "=SUM(U!A1:A9)", "T!A1", "=SUM(U!A1:A9)", "U!A1", "4", "U!B1", "=SUM(U!A1:A9)")
	for task := range 3 {
		ticked(t, x, task, 2+2*task, 2+2*task)
	}
	for task, name := range []string{"A1", "T!A1", "U!B1"} {
		parkedIs(t, x, task, name, 2+2*task)
		if s := x.Flight(task).Frame.Scans; s != 1+2*task {
			t.Error(task, s)
		}
	}
	settle(t, x)
	for _, name := range []string{"A1", "T!A1", "U!B1"} {
		valueIs(t, x, name, n(4))
	}
}
