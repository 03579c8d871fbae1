package plan

import (
	"testing"

	"whittle/api"
	"whittle/view"
)

// stepsOf is how many steps a view does for each cell from now on, all of it ticked to its end, in an order that hangs on by.
func stepsOf(t *testing.T, v *view.View, by int) map[api.Cell]int {
	t.Helper()
	steps := map[api.Cell]int{}
	for i := by; !v.Idle(); i++ {
		events, why := v.Trace(i%3, 1+by%17)
		if why != api.OK || i-by > 1000000 {
			t.Fatal(why, "without an end")
		}
		for _, event := range events {
			steps[event.Cell]++
		}
	}
	return steps
}

// row is the longest row from a stale cell on, user by user, of which each cell has these steps.
func row(v *view.View, steps, known map[api.Cell]int, c api.Cell) int {
	if l, is := known[c]; is {
		return l
	}
	longest := 0
	for _, user := range v.Users(c) {
		if v.Stale(user) {
			longest = max(longest, row(v, steps, known, user))
		}
	}
	known[c] = longest + steps[c]
	return known[c]
}

// rows is the longest of all.
func rows(v *view.View, steps map[api.Cell]int) int {
	longest, known := 0, map[api.Cell]int{}
	for task := range v.Sheets() {
		for _, c := range v.StaleOf(task) {
			longest = max(longest, row(v, steps, known, c))
		}
	}
	return longest
}
