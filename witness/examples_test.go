package witness

import (
	"slices"
	"testing"

	"whittle/api"
	"whittle/tasks"
)

// example is the sheet of the chapter's examples.
func example(t *testing.T) *tasks.Tasks {
	t.Helper()
	x, why := tasks.New("S")
	if x == nil || why != api.OK {
		t.Fatal(why)
	}
	edited(t, x, "A1", "1", "B1", "=A1", "C1", "=B1+1", "D1", "=C1+B1")
	return x
}

func TestExampleChains(t *testing.T) {
	x := example(t)
	chainIs(t, x, "D1", "D1 B1")
	chainIs(t, x, "B1", "B1")
	noChain(t, x, at("A1"), api.ErrFresh)
	noChain(t, x, api.Cell{Sheet: 1}, api.ErrCell)
	ticked(t, x, 0, 2, 2)
	chainIs(t, x, "D1", "D1 C1")
}

func TestExampleReplay(t *testing.T) {
	x := example(t)
	l := traced(t, x, 0, 2)
	if want := []api.Event{{Cell: at("B1"), Reads: true, Read: at("A1"), V: n(1)}, {Cell: at("B1"), Wrote: true, V: n(1)}}; !slices.Equal(l, want) {
		t.Fatal(l)
	}
	replayed(t, x.Code(at("B1")), n(1), l...)
}

func TestExampleSplit(t *testing.T) {
	x := example(t)
	l := traced(t, x, 0, 5)
	if len(l) != 5 {
		t.Fatal(l)
	}
	splitsTo(t, l, l[:2], l[2:])
	for i, c := range list("B1 B1 C1 C1 C1") {
		if l[i].Cell != c {
			t.Error(i, l[i])
		}
	}
}
