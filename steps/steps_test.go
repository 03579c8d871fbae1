package steps

import (
	"slices"
	"testing"

	"whittle/api"
	"whittle/machine"
)

var a1, b1, z9 = api.Cell{}, api.Cell{Col: 1}, api.Cell{Sheet: 1, Row: 8, Col: 25}

func n(x int) api.Value { return api.Value{Kind: api.Number, Num: api.Num{N: x, D: 1}} }

// begun is a run of A1+B1&2.
func begun(t *testing.T) *machine.Frame {
	t.Helper()
	run, why := machine.New([]api.Ins{{Op: api.InsLoad, Cell: a1}, {Op: api.InsLoad, Cell: b1}, {Op: api.InsBin, A: api.OpAdd}, {Op: api.InsPush, V: n(2)}, {Op: api.InsBin, A: api.OpJoin}, {Op: api.InsStore}})
	if run == nil || why != api.OK {
		t.Fatal(why)
	}
	return run
}

// none is what must not be asked.
func none(c api.Cell) api.Value { panic(c) }

func TestNext(t *testing.T) { // Each step: its cell and value, if it reads, and what the last one wrote; all else is zero.
	run := begun(t)
	var asked []api.Cell
	read := func(c api.Cell) api.Value {
		asked = append(asked, c)
		return n(5 + c.Col)
	}
	var got []api.Event
	for event, did := Next(run, z9, read); did; event, did = Next(run, z9, read) {
		got = append(got, event)
		if run.Steps() != len(got) {
			t.Fatal(run.Steps(), got)
		}
	}
	wrote := api.Value{Kind: api.Text, Text: "112"}
	want := []api.Event{{Cell: z9, Reads: true, Read: a1, V: n(5)}, {Cell: z9, Reads: true, Read: b1, V: n(6)}, {Cell: z9}, {Cell: z9}, {Cell: z9}, {Cell: z9, V: wrote, Wrote: true}}
	if !slices.Equal(got, want) || !slices.Equal(asked, []api.Cell{a1, b1}) || !run.Done() {
		t.Error(got, asked)
	}
}

func TestNextOfEnded(t *testing.T) { // Nothing is asked, done or told.
	run := begun(t)
	for run.Step(n(1)) {
	}
	if event, did := Next(run, z9, none); did || event != (api.Event{}) || run.Steps() != 6 {
		t.Error(event, did, run.Steps())
	}
}

func TestNextReadsNone(t *testing.T) { // Nothing is asked for a step that wants no cell, the last one too.
	run := begun(t)
	run.Step(n(1))
	run.Step(n(2))
	for run.Steps() < 6 {
		if event, did := Next(run, b1, none); !did || event.Reads || event.Cell != b1 {
			t.Fatal(event, did)
		}
	}
}
