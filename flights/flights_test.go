package flights

import (
	"testing"

	"whittle/api"
)

func TestOff(t *testing.T) { // Nothing is set; lists that have no parts are none, spare room or not.
	empty := api.Frame{Stack: []api.Value{}, Accs: make([]api.Acc, 0, 3)}
	for _, f := range []api.Flight{{}, {Frame: empty}} {
		if !Off(f) {
			t.Errorf("%v is set", f)
		}
	}
}

func TestNotOff(t *testing.T) { // Each field by itself, one with zeros within, too.
	for i, f := range []api.Flight{
		{On: true},
		{Cell: api.Cell{Sheet: 1}},
		{Cell: api.Cell{Row: -1}},
		{Cell: api.Cell{Col: 1}},
		{Frame: api.Frame{At: 1}},
		{Frame: api.Frame{Steps: -1}},
		{Frame: api.Frame{Stack: make([]api.Value, 1)}},
		{Frame: api.Frame{Accs: make([]api.Acc, 1)}},
		{Frame: api.Frame{Scans: 1}},
		{Frame: api.Frame{Done: true}},
	} {
		if Off(f) {
			t.Errorf("number %d: %v is off", i, f)
		}
	}
}
