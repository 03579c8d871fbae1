// Package edits: what an edit names, for all layers that follow one.
package edits

import "whittle/api"

// Cells are those that the changes of an edit name, in their order.
func Cells(changes ...api.Change) []api.Cell {
	var cells []api.Cell
	for _, change := range changes {
		cells = append(cells, change.Cell)
	}
	return cells
}
