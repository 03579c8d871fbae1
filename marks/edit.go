package marks

import (
	"slices"

	"whittle/api"
	"whittle/edits"
	"whittle/inside"
	"whittle/order"
)

// Edit is the graph's; what it makes worthless is stale from then on.
func (m *Marks) Edit(changes ...api.Change) api.Refusal {
	why := m.Graph.Edit(changes...)
	if why.Code != api.OK {
		return why
	}
	m.last = m.follow(edits.Cells(changes...))
	return why
}

// follow turns the flags that an edit of these cells turns, and tells which.
func (m *Marks) follow(named []api.Cell) api.Effect {
	var effect api.Effect
	for _, c := range m.touched(named) {
		was, is := m.Stale(c), m.canWork(c)
		switch {
		case is && !was:
			m.spoil(c)
			effect.Stale = append(effect.Stale, c)
		case was && !is:
			m.freshen(c)
			effect.Fresh = append(effect.Fresh, c)
		}
	}
	// All others use what they have used, and were counted as flags turned.
	for _, c := range named {
		m.recount(c)
	}
	return effect
}

// touched are the cells of an edit and those that reach them, in their order. No other cell's flag can turn: one that becomes cyclic, or ceases to be, reaches a cell of the edit, since the circle came or went by it.
func (m *Marks) touched(named []api.Cell) []api.Cell {
	cells := slices.Concat(named, m.Reach(named...))
	slices.SortFunc(cells, order.Cells)
	return slices.Compact(cells)
}

// spoil makes a fresh cell stale.
func (m *Marks) spoil(c api.Cell) {
	m.stale[c] = struct{}{}
	for _, user := range m.Users(c) {
		m.wait(user, m.waits[user]+1)
	}
}

// freshen makes a stale cell fresh.
func (m *Marks) freshen(c api.Cell) {
	delete(m.stale, c)
	for _, user := range m.Users(c) {
		m.wait(user, m.waits[user]-1)
	}
}

// recount finds anew how many stale cells a cell uses.
func (m *Marks) recount(c api.Cell) {
	n := 0
	uses := m.Uses(c)
	for i, a := range uses {
		for used := range inside.Of(m.stale, a) {
			// What an area ahead has, too, was counted with that one.
			if !inside.Any(uses[:i], used) {
				n++
			}
		}
	}
	m.wait(c, n)
}

// wait says of how many stale cells a cell uses.
func (m *Marks) wait(c api.Cell, n int) {
	if n == 0 {
		delete(m.waits, c)
		return
	}
	m.waits[c] = n
}
