package book

import (
	"whittle/api"
	"whittle/place"
)

// Edit lays new contents into the cells that the changes name: into all of them, or, if it is refused, into none.
func (b *Book) Edit(changes ...api.Change) api.Refusal {
	if len(changes) == 0 {
		return api.Refusal{Code: api.ErrNone}
	}
	if len(changes) > api.MaxBatch {
		return api.Refusal{Code: api.ErrMany}
	}
	next, why := b.readAll(changes)
	if why.Code != api.OK {
		return why
	}
	if b.lenBehind(changes) > api.MaxCells {
		return api.Refusal{Code: api.ErrFull}
	}
	for _, change := range changes {
		b.lay(change.Cell, next[change.Cell])
	}
	b.version++
	return api.Refusal{}
}

// readAll is the contents that the changes ask for, by their cells; or the first refusal.
func (b *Book) readAll(changes []api.Change) (map[api.Cell]contents, api.Refusal) {
	next := map[api.Cell]contents{}
	for i, change := range changes {
		if !b.has(change.Cell) {
			return nil, api.Refusal{Code: api.ErrCell, Change: i}
		}
		if _, twice := next[change.Cell]; twice {
			return nil, api.Refusal{Code: api.ErrTwice, Change: i}
		}
		x, why, at := b.read(change.Cell, change.Text)
		if why != api.OK {
			return nil, api.Refusal{Code: why, Change: i, At: at}
		}
		next[change.Cell] = x
	}
	return next, api.Refusal{}
}

// lenBehind is how many cells would have contents behind changes of which no two name one cell.
func (b *Book) lenBehind(changes []api.Change) int {
	n := b.Len()
	for _, change := range changes {
		if b.Kind(change.Cell) != api.Empty {
			n--
		}
		if change.Text != "" {
			n++
		}
	}
	return n
}

func (b *Book) lay(c api.Cell, x contents) {
	if x.kind() == api.Empty {
		delete(b.cells, c)
		return
	}
	b.cells[c] = x
}

// Restore is the book of a state's sheets, contents and version; all else in it is not looked at.
func Restore(s api.State) (*Book, api.Errno) {
	b, why := New(s.Sheets...)
	if why != api.OK {
		return nil, why
	}
	if s.Version < 0 || s.Version > api.MaxNum || len(s.Cells) > api.MaxCells {
		return nil, api.ErrState
	}
	for i, held := range s.Cells {
		if i > 0 && !place.Before(s.Cells[i-1].Cell, held.Cell) || !b.take(held) {
			return nil, api.ErrState
		}
	}
	b.version = s.Version
	return b, api.OK
}

// take lays a state's cell into the book; false, if it has no contents, or such as an edit would refuse.
func (b *Book) take(held api.Held) bool {
	if held.Text == "" || !b.has(held.Cell) {
		return false
	}
	x, why, _ := b.read(held.Cell, held.Text)
	if why == api.OK {
		b.lay(held.Cell, x)
	}
	return why == api.OK
}
