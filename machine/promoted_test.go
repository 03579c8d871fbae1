package machine

import (
	"testing"

	"whittle/api"
	"whittle/place"
)

func TestPromotedAtScans(t *testing.T) { // Promise 9.4: Passed is Scans, Left the cells of Area that were not passed, Peek the next of these; elsewhere as of the zero Span.
	f := begin(t, flat(t, "SUM(B1:C2,1,A1:A2)+COUNTIF(D1:D1,1)")...)
	unscanned(t, f)
	step(t, f, blank) // open
	for i, name := range []string{"B1", "C1", "B2", "C2"} {
		scanning(t, f, name, i, 4-i)
		step(t, f, n(1))
	}
	unscanned(t, f)
	step(t, f, blank) // push
	unscanned(t, f)
	step(t, f, blank) // feed
	scanning(t, f, "A1", 0, 2)
	step(t, f, n(1))
	scanning(t, f, "A2", 1, 1)
	step(t, f, n(1))
	unscanned(t, f)
	step(t, f, blank) // close
	stacked(t, f, n(7))
	step(t, f, blank, blank, blank) // open, push, feed
	scanning(t, f, "D1", 0, 1)
	step(t, f, n(1))
	for !f.Done() {
		unscanned(t, f)
		step(t, f, blank)
	}
	unscanned(t, f)
	stacked(t, f, n(8))
}

func TestPromotedAtAFullFold(t *testing.T) { // Promise 9.4: at a scan whose fold is Full, too: nothing of it was passed.
	for _, l := range [][]api.Ins{
		{open(api.FnFirst), push(n(1)), feed(), scan(area("A1:B9")), shut(), store()},
		{open(api.FnSumIf), push(bad(api.FaultNA)), feed(), scan2(area("A1:B9"), area("A1:B9")), shut(), store()},
	} {
		f := begin(t, l...)
		steps(t, f, 3)
		scanning(t, f, "A1", 0, 18)
		wantsNone(t, f)
		steps(t, f, 1)
		unscanned(t, f)
	}
}

func TestPromotedAtPairs(t *testing.T) { // Promise 9.4: while a partner is wanted Peek is the next cell of Area; behind the last one there is none.
	f := begin(t, flat(t, "SUMIF(A1:B1,1,C5:D5)")...)
	steps(t, f, 3)
	scanning(t, f, "A1", 0, 2)
	step(t, f, n(1))
	wants(t, f, "C5")
	scanning(t, f, "B1", 1, 1)
	step(t, f, n(1))
	wants(t, f, "B1")
	scanning(t, f, "B1", 1, 1)
	step(t, f, n(1))
	wants(t, f, "D5")
	scanning(t, f, "", 2, 0)
	step(t, f, n(1))
	unscanned(t, f)
}

func TestPromotedMethods(t *testing.T) { // Chapter 9, Ways: a Frame embeds a Stack and a pointer to its scan's Span.
	f := begin(t, flat(t, "SUM(A1:A3)")...)
	var stack *Stack = &f.Stack
	var span *place.Span = f.Span
	depth, left := f.Depth, f.Left
	step(t, f, blank, n(1))
	if span != f.Span || span.Passed() != 1 || left() != 2 || depth() != 0 || stack.Depth() != 0 {
		t.Fatal("the frame's parts don't go with it")
	}
	step(t, f, n(1), n(1), blank)
	if top, ok := stack.Top(); span.Left() != 0 || left() != 0 || depth() != 1 || top != n(3) || !ok {
		t.Fatal("the frame's parts don't go with it, behind the scan")
	}
}

func TestWholeSheet(t *testing.T) { // Promises 9.4, 9.5: a scan of all cells of a sheet, at its beginning and at its end.
	whole := api.Area{Sheet: 15, Bottom: api.MaxRows - 1, Right: api.MaxCols - 1}
	size := api.MaxRows * api.MaxCols
	one := []api.Ins{open(api.FnCount), scan(whole), shut(), store()}
	f := back(t, one, api.Frame{At: 1, Steps: size, Accs: []api.Acc{begun(api.FnCount)}, Scans: size - 1})
	last := api.Cell{Sheet: 15, Row: api.MaxRows - 1, Col: api.MaxCols - 1}
	if c, ok := f.Wants(); !ok || c != last || f.Left() != 1 || f.Passed() != size-1 {
		t.Fatal("it wants", c, ok)
	}
	step(t, f, n(1), blank, blank)
	if r, ok := f.Result(); r != n(1) || !ok || f.Steps() != size+3 {
		t.Fatal("it comes to", r, ok, f.Steps())
	}
	refused(t, one, api.Frame{At: 1, Accs: []api.Acc{begun(api.FnCount)}, Scans: size}, api.ErrState)
	two := []api.Ins{open(api.FnSumIf), scan2(whole, whole), shut(), store()}
	acc := begun(api.FnSumIf)
	acc.Wants = true
	f = back(t, two, api.Frame{At: 1, Accs: []api.Acc{acc}, Scans: size})
	if c, ok := f.Wants(); !ok || c != last || f.Left() != 0 || f.Passed() != size {
		t.Fatal("it wants", c, ok)
	}
	refused(t, two, api.Frame{At: 1, Accs: []api.Acc{acc}, Scans: size + 1}, api.ErrState)
}
