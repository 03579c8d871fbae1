package watch

import (
	"fmt"
	"maps"
	"slices"
	"testing"

	"whittle/api"
	"whittle/order"
	"whittle/view"
)

// beside is the chapter's words told once more, over a view that goes through what a watch goes through: which cells each moment touched, and what each cell told at it.
type beside struct {
	*view.View
	touched [][]api.Cell            // at the moments 1, 2, ..
	told    []map[api.Cell]api.Seen // at the moments 0, 1, ..
	why     map[string]int          // for what cells were touched, and how often
}

func newBeside(t *testing.T) *beside {
	t.Helper()
	v, why := view.New("S", "T", "U")
	if why != api.OK {
		t.Fatal(why)
	}
	b := &beside{View: v, why: map[string]int{}}
	b.told = append(b.told, b.tell())
	return b
}

// bare is what a cell tells, but for the Version of a fresh one.
func bare(seen api.Seen) api.Seen {
	if seen.Fresh {
		seen.Version = 0
	}
	return seen
}

// tell is what all cells of the universe tell, so.
func (b *beside) tell() map[api.Cell]api.Seen {
	told := map[api.Cell]api.Seen{}
	for _, c := range universe() {
		seen, _ := b.Read(c)
		told[c] = bare(seen)
	}
	return told
}

// note keeps a moment, at which these cells are touched.
func (b *beside) note(cells ...api.Cell) {
	b.touched = append(b.touched, cells)
	b.told = append(b.told, b.tell())
}

// edit is the view's, and which cells it touches, found by what all of them were ahead of it and are behind it.
func (b *beside) edit(changes []api.Change) api.Refusal {
	stale, cyclic := map[api.Cell]bool{}, map[api.Cell]bool{}
	for _, c := range universe() {
		stale[c], cyclic[c] = b.Stale(c), b.Cyclic(c)
	}
	r := b.Edit(changes...)
	if r.Code != api.OK {
		return r
	}
	var cells []api.Cell
	for _, c := range universe() {
		why := ""
		switch {
		case slices.ContainsFunc(changes, func(x api.Change) bool { return x.Cell == c }):
			why = "named"
		case b.Stale(c) && !stale[c]:
			why = "stale"
		case !b.Stale(c) && stale[c]:
			why = "fresh"
		case b.Cyclic(c) && !cyclic[c]:
			why = "cyclic"
		default:
			continue
		}
		b.why[why]++
		cells = append(cells, c)
	}
	b.note(cells...)
	return r
}

// trace is the view's, step by step: each that writes a cell touches it.
func (b *beside) trace(task, budget int) []api.Event {
	var events []api.Event
	for len(events) < budget {
		l, _ := b.Trace(task, 1)
		if len(l) == 0 {
			break
		}
		if l[0].Wrote {
			b.note(l[0].Cell)
			b.why["written"]++
		}
		events = append(events, l[0])
	}
	return events
}

// since is what was touched behind a moment.
func (b *beside) since(moment int) []api.Cell {
	all := map[api.Cell]bool{}
	for _, cells := range b.touched[moment:] {
		for _, c := range cells {
			all[c] = true
		}
	}
	return slices.SortedFunc(maps.Keys(all), order.Cells)
}

// agrees holds what a watch tells of moments against the words, of every moment; and 18.3 of all of them.
func agrees(t *testing.T, x *Watch, want *beside) {
	t.Helper()
	momentIs(t, x, len(want.touched))
	for m := range x.Moment() + 1 {
		got, why := x.Since(m)
		if !slices.Equal(got, want.since(m)) || why != api.OK {
			t.Fatalf("Since(%d): %s, %d, want %s", m, names(got...), why, names(want.since(m)...))
		}
		for _, c := range universe() {
			if now := bare(read(t, x, c)); !slices.Contains(got, c) && now != want.told[m][c] {
				t.Fatalf("%s is not told by Since(%d), and tells %v, at that moment %v", names(c), m, now, want.told[m][c])
			}
		}
	}
}

// alike holds all that a watch tells as a view against the view beside.
func alike(t *testing.T, x *Watch, want *beside) {
	t.Helper()
	if one, two := tellsView(x), tellsView(want); one != two {
		t.Fatalf("a watch tells %s, a view %s", one, two)
	}
}

// same holds two answers to what was asked.
func same(t *testing.T, call string, got, want any) {
	t.Helper()
	if fmt.Sprint(got) != fmt.Sprint(want) {
		t.Fatalf("%s: %v, want %v", call, got, want)
	}
}
