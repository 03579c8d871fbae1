package choice

import (
	"testing"

	"whittle/api"
	"whittle/value"
)

func n(x int) api.Value { return api.Value{Kind: api.Number, Num: api.Num{N: x, D: 1}} }

func half() api.Value { return api.Value{Kind: api.Number, Num: api.Num{N: 1, D: 2}} }

func bad(code int) api.Value { return api.Value{Kind: api.Fault, Fault: code} }

// comes holds the argument's number, or 0 and the value.
func comes(t *testing.T, id int, first api.Value, args, want int, v api.Value) {
	t.Helper()
	if k, got := Of(id, first, args); k != want || got != v {
		t.Errorf("of %d arguments the first one %v leads to %d, %v, not to %d, %v", args, first, k, got, want, v)
	}
}

func TestIf(t *testing.T) { // Promise 9.3, InsBranch; 13.2: FALSE, where there is no third one.
	for _, args := range []int{2, 3} {
		for _, yes := range []api.Value{value.Truth(true), n(1), n(-3), half(), value.Text("TRUE")} {
			comes(t, api.FnIf, yes, args, 1, value.Blank())
		}
		comes(t, api.FnIf, value.Text("x"), args, 0, bad(api.FaultValue))
		comes(t, api.FnIf, value.Text("true"), args, 0, bad(api.FaultValue))
		comes(t, api.FnIf, bad(api.FaultNA), args, 0, bad(api.FaultNA))
	}
	for _, no := range []api.Value{value.Truth(false), n(0), value.Blank(), value.Text("FALSE")} {
		comes(t, api.FnIf, no, 3, 2, value.Blank())
		comes(t, api.FnIf, no, 2, 0, value.Truth(false))
	}
}

func TestIfError(t *testing.T) { // Promise 9.3, InsGuard.
	for _, v := range []api.Value{value.Blank(), n(0), n(7), value.Text(""), value.Text("#N/A"), value.Truth(false)} {
		comes(t, api.FnIfError, v, 2, 0, v)
	}
	for fault := api.FaultDiv; fault <= api.FaultArg; fault++ {
		comes(t, api.FnIfError, bad(fault), 2, 1, value.Blank())
	}
}

func TestChoose(t *testing.T) { // Promise 9.3, InsChoose.
	for args := 2; args <= api.MaxArgs; args++ {
		for k := -2; k < args+3; k++ {
			if k < 1 || k >= args {
				comes(t, api.FnChoose, n(k), args, 0, bad(api.FaultArg))
			} else {
				comes(t, api.FnChoose, n(k), args, k, value.Blank())
			}
		}
	}
	comes(t, api.FnChoose, half(), 3, 0, bad(api.FaultArg))
	comes(t, api.FnChoose, value.Blank(), 3, 0, bad(api.FaultArg))
	comes(t, api.FnChoose, n(api.MaxNum), 30, 0, bad(api.FaultArg))
	comes(t, api.FnChoose, value.Truth(true), 3, 1, value.Blank())
	comes(t, api.FnChoose, value.Text("2"), 3, 2, value.Blank())
	comes(t, api.FnChoose, value.Text("x"), 3, 0, bad(api.FaultValue))
	comes(t, api.FnChoose, bad(api.FaultNA), 3, 0, bad(api.FaultNA))
}
