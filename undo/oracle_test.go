package undo

import (
	"maps"
	"slices"
	"testing"

	"whittle/api"
	"whittle/watch"
)

// beside is the chapter's words told once more, over a watch that goes through what an undo goes through: all contents behind each edit, and where among them it stands.
type beside struct {
	*watch.Watch
	all   []map[api.Cell]string // the contents at which one may stand
	cells [][]api.Cell          // those of the edit that leads from each of them to the next
	stand int
}

func newBeside(t *testing.T) *beside {
	t.Helper()
	w, why := watch.New("S", "T", "U")
	if why != api.OK {
		t.Fatal(why)
	}
	return &beside{Watch: w, all: []map[api.Cell]string{{}}}
}

// edit is the watch's; an accepted one is the last step there is.
func (b *beside) edit(changes []api.Change) api.Refusal {
	r := b.Edit(changes...)
	if r.Code != api.OK {
		return r
	}
	var named []api.Cell
	after := maps.Clone(b.all[b.stand])
	for _, change := range changes {
		named = append(named, change.Cell)
		after[change.Cell] = change.Text
	}
	b.all = append(slices.Clip(b.all[:b.stand+1]), after)
	b.cells = append(slices.Clip(b.cells[:b.stand]), named)
	b.stand++
	if b.stand > api.MaxUndo {
		b.all, b.cells, b.stand = b.all[1:], b.cells[1:], b.stand-1
	}
	return r
}

// lay is the watch's edit of some cells to what they hold where one is to stand.
func (b *beside) lay(t *testing.T, cells []api.Cell, to int) api.Errno {
	t.Helper()
	var changes []api.Change
	for _, c := range cells {
		changes = append(changes, api.Change{Cell: c, Text: b.all[to][c]})
	}
	if r := b.Edit(changes...); r != (api.Refusal{}) {
		t.Fatal(r)
	}
	b.stand = to
	return api.OK
}

func (b *beside) undo(t *testing.T) api.Errno {
	t.Helper()
	if b.stand == 0 {
		return api.ErrUndo
	}
	return b.lay(t, b.cells[b.stand-1], b.stand-1)
}

func (b *beside) redo(t *testing.T) api.Errno {
	t.Helper()
	if b.stand == len(b.cells) {
		return api.ErrUndo
	}
	return b.lay(t, b.cells[b.stand], b.stand+1)
}

// agrees holds the steps and all contents against the words.
func agrees(t *testing.T, x *Undo, want *beside) {
	t.Helper()
	stepsAre(t, x, want.stand, len(want.cells)-want.stand)
	held := maps.Clone(want.all[want.stand])
	maps.DeleteFunc(held, func(_ api.Cell, text string) bool { return text == "" })
	if got := contents(x); !maps.Equal(got, held) {
		t.Fatalf("the contents are %v, want %v", got, held)
	}
}

// alike holds all that an undo tells as a watch against the watch beside.
func alike(t *testing.T, x *Undo, want *beside) {
	t.Helper()
	if one, two := tellsWatch(x), tellsWatch(want); one != two {
		t.Fatalf("an undo tells %s, a watch %s", one, two)
	}
}
