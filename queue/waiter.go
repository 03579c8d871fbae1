package queue

import (
	"cmp"

	"whittle/api"
	"whittle/order"
)

// The lanes, the one that goes ahead first.
const (
	seen = iota
	unseen
)

// waiter is a cell that waits.
type waiter struct {
	cell        api.Cell
	lane, level int
}

func (w waiter) key() api.Cell { return w.cell }

// compare is below 0, if w goes ahead of x, above 0, if behind it.
func (w waiter) compare(x waiter) int {
	return cmp.Or(cmp.Compare(w.lane, x.lane), cmp.Compare(w.level, x.level), order.Cells(w.cell, x.cell))
}
