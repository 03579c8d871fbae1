// Package order: the order of cells as a comparison, for all that is sorted ahead of being told.
package order

import (
	"whittle/api"
	"whittle/place"
)

// Cells is below 0, if a stands ahead of b in the order of cells, above 0, if behind it; 0, if they are one.
func Cells(a, b api.Cell) int {
	switch {
	case place.Before(a, b):
		return -1
	case place.Before(b, a):
		return 1
	}
	return 0
}
