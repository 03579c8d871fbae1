// Package flights: what a state says of tasks without a frame, for all layers that take one.
package flights

import "whittle/api"

// Off says whether this is the flight of a task without a frame: nothing in it is set. (Empty lists are none.)
func Off(flight api.Flight) bool {
	f := flight.Frame
	return !flight.On && flight.Cell == api.Cell{} && f.At == 0 && f.Steps == 0 && len(f.Stack) == 0 && len(f.Accs) == 0 && f.Scans == 0 && !f.Done
}
