package funcs

import (
	"slices"
	"testing"

	"whittle/api"
)

func fed(v api.Value) step { return step{'F', v} }

func cell(v api.Value) step { return step{'C', v} }

func pair(v api.Value) step { return step{'P', v} }

// run is a fold, what is done to it, and what it comes to.
type run struct {
	name        string
	l           []step
	want        api.Value
	full, wants bool
}

func (x run) check(t *testing.T) {
	t.Helper()
	a := open(t, numbered[x.name])
	for _, y := range x.l {
		y.do(a)
	}
	if a.Result() != x.want || a.Full() != x.full || a.Wants() != x.wants {
		t.Fatalf("%s: %scomes to %s, Full %v, Wants %v; want %s", x.name, played(x.l), told(a.Result()), a.Full(), a.Wants(), told(x.want))
	}
}

func TestNumberFolds(t *testing.T) { // Promise 7.5.
	for _, x := range []run{
		{"SUM", []step{fed(txt("1/2")), fed(is(true)), fed(n(3)), cell(q(1, 2)), cell(txt("8")), cell(is(true)), fed(blank), cell(blank)}, n(5), false, false},
		{"SUM", []step{cell(n(top)), cell(n(1))}, unfit, true, false},
		{"SUM", []step{cell(n(top)), cell(n(1)), cell(none), fed(lost)}, unfit, true, false},
		{"SUM", []step{cell(q(1, 999983)), cell(q(1, 999979))}, unfit, true, false},
		{"SUM", []step{fed(txt("x"))}, valued, true, false},
		{"SUM", []step{fed(lost)}, lost, true, false},
		{"SUM", []step{cell(lost), cell(none)}, lost, true, false},
		{"PRODUCT", []step{fed(n(2)), cell(q(3, 4)), cell(txt("9")), cell(blank), fed(blank)}, q(3, 2), false, false},
		{"PRODUCT", []step{fed(n(0)), cell(n(top)), cell(n(top))}, n(0), false, false},
		{"PRODUCT", []step{cell(n(top)), cell(n(2))}, unfit, true, false},
		{"SUMSQ", []step{cell(n(3)), fed(txt("-4")), cell(is(true))}, n(25), false, false},
		{"SUMSQ", []step{cell(n(bottom))}, n(top), false, false},
		{"SUMSQ", []step{cell(n(bottom)), cell(n(1))}, unfit, true, false},
		{"SUMSQ", []step{cell(n(bottom + 1))}, unfit, true, false},
		{"SUMSQ", []step{cell(q(1, 1001))}, unfit, true, false},
		{"AVERAGE", []step{cell(n(1)), cell(n(2)), fed(is(true)), cell(is(true)), cell(blank), fed(blank)}, q(4, 3), false, false},
		{"AVERAGE", []step{cell(txt("1")), cell(blank)}, divide, false, false},
		{"AVERAGE", []step{cell(q(1, bottom)), cell(n(0))}, unfit, false, false},
		{"AVERAGE", []step{cell(n(top)), cell(n(top))}, unfit, true, false},
		{"MIN", []step{cell(n(3)), cell(n(5)), fed(txt("2")), cell(txt("1")), cell(is(false)), cell(blank), fed(blank)}, n(2), false, false},
		{"MIN", []step{cell(n(3))}, n(3), false, false},
		{"MIN", []step{cell(q(1, 999979)), cell(q(1, 999983))}, q(1, 999983), false, false},
		{"MAX", []step{cell(n(-3)), cell(n(-5)), cell(blank)}, n(-3), false, false},
		{"MAX", []step{cell(n(-5)), cell(n(-3)), fed(is(false))}, n(0), false, false},
		{"MAX", []step{cell(n(1)), cell(none), cell(n(2))}, none, true, false},
		{"GCD", []step{cell(n(12)), fed(txt("-18")), cell(n(0)), cell(is(true)), cell(txt("5"))}, n(6), false, false},
		{"GCD", []step{cell(n(0)), cell(n(0))}, n(0), false, false},
		{"GCD", []step{cell(n(-top))}, n(top), false, false},
		{"GCD", []step{cell(n(4)), fed(q(1, 2)), cell(n(2))}, wrong, true, false},
		{"GCD", []step{fed(txt("x")), fed(q(1, 2))}, valued, true, false},
	} {
		x.check(t)
	}
}

func TestTruthFolds(t *testing.T) { // Promise 7.5.
	for _, x := range []run{
		{"AND", []step{cell(n(1)), cell(is(true)), cell(txt("FALSE")), fed(txt("TRUE")), fed(q(1, 2)), cell(blank), fed(blank)}, is(true), false, false},
		{"AND", []step{cell(n(0)), cell(none)}, is(false), true, false},
		{"AND", []step{fed(txt("FALSE")), fed(none)}, is(false), true, false},
		{"AND", []step{fed(txt("0"))}, valued, true, false},
		{"AND", []step{cell(none), cell(is(false))}, none, true, false},
		{"OR", []step{cell(n(0)), cell(is(false)), cell(txt("TRUE")), fed(txt("FALSE")), cell(blank)}, is(false), false, false},
		{"OR", []step{cell(q(-1, 2)), cell(none)}, is(true), true, false},
		{"OR", []step{fed(txt("TRUE")), fed(txt("x"))}, is(true), true, false},
		{"OR", []step{fed(txt("true"))}, valued, true, false},
		{"XOR", []step{cell(n(1)), cell(is(true)), fed(txt("TRUE")), cell(n(0)), cell(txt("TRUE"))}, is(true), false, false},
		{"XOR", []step{cell(n(1)), cell(is(true)), fed(blank), cell(blank)}, is(false), false, false},
		{"XOR", []step{cell(n(1)), fed(txt("1"))}, valued, true, false},
	} {
		x.check(t)
	}
}

func TestOtherFolds(t *testing.T) { // Promise 7.5.
	for _, x := range []run{
		{"COUNT", []step{fed(txt("2")), fed(is(true)), fed(n(1)), fed(txt("x")), fed(none), fed(blank)}, n(3), false, false},
		{"COUNT", []step{cell(txt("2")), cell(is(true)), cell(n(1)), cell(none), cell(blank)}, n(1), false, false},
		{"COUNTA", []step{fed(txt("")), fed(is(false)), fed(n(0)), fed(none), fed(blank)}, n(4), false, false},
		{"COUNTA", []step{cell(txt("")), cell(is(false)), cell(n(0)), cell(none), cell(q(2, 4)), cell(blank)}, n(5), false, false},
		{"CONCAT", []step{cell(n(1)), fed(is(true)), cell(blank), cell(q(1, 3)), fed(txt(""))}, txt("1TRUE1/3"), false, false},
		{"CONCAT", []step{cell(txt(xs(255))), cell(txt("x"))}, txt(xs(256)), false, false},
		{"CONCAT", []step{cell(txt(xs(256))), fed(txt("x")), cell(none)}, long, true, false},
		{"CONCAT", []step{cell(txt("a")), fed(none), cell(lost)}, none, true, false},
		{"FIRST", []step{cell(blank), fed(blank), cell(txt("")), cell(n(1))}, txt(""), true, false},
		{"FIRST", []step{fed(none), cell(n(1))}, none, true, false},
		{"FIRST", []step{fed(q(2, 4))}, valued, true, false},
		{"FIRST", []step{cell(blank)}, blank, false, false},
		{"LAST", []step{cell(n(1)), fed(txt("a")), cell(blank), fed(blank)}, txt("a"), false, false},
		{"LAST", []step{cell(n(1)), cell(none)}, none, false, false},
		{"LAST", []step{cell(none), cell(n(1))}, n(1), false, false},
	} {
		x.check(t)
	}
}

func TestEndedKeepsTheRest(t *testing.T) { // Promise 7.3: to end it sets Full and V; all else stays.
	for _, x := range []struct {
		s    api.Acc
		x    step
		want api.Acc
	}{
		{api.Acc{Fn: api.FnSum, Num: api.Num{N: top, D: 1}, Count: 4}, cell(n(1)), api.Acc{Fn: api.FnSum, Num: api.Num{N: top, D: 1}, Count: 4, Full: true, V: unfit}},
		{api.Acc{Fn: api.FnAverage, Num: api.Num{N: top, D: 1}, Count: 4}, cell(n(1)), api.Acc{Fn: api.FnAverage, Num: api.Num{N: top, D: 1}, Count: 4, Full: true, V: unfit}},
		{api.Acc{Fn: api.FnSumSq, Num: api.Num{N: -top, D: 1}}, cell(n(bottom + 1)), api.Acc{Fn: api.FnSumSq, Num: api.Num{N: -top, D: 1}, Full: true, V: unfit}},
		{api.Acc{Fn: api.FnMin, Num: api.Num{N: 5, D: 1}, Has: true}, fed(txt("x")), api.Acc{Fn: api.FnMin, Num: api.Num{N: 5, D: 1}, Has: true, Full: true, V: valued}},
		{api.Acc{Fn: api.FnGcd, Num: api.Num{N: 5, D: 1}}, fed(q(5, 2)), api.Acc{Fn: api.FnGcd, Num: api.Num{N: 5, D: 1}, Full: true, V: wrong}},
		{api.Acc{Fn: api.FnXor, Num: zeroNum, Count: 3}, fed(none), api.Acc{Fn: api.FnXor, Num: zeroNum, Count: 3, Full: true, V: none}},
		{api.Acc{Fn: api.FnMatch, Num: zeroNum, Count: 3}, fed(none), api.Acc{Fn: api.FnMatch, Num: zeroNum, Count: 3, Needle: none, Has: true, Full: true, V: none}},
		{api.Acc{Fn: api.FnSumProduct, Num: api.Num{N: 1, D: 1}, Held: api.Num{N: 2, D: 1}, Wants: true}, pair(none), api.Acc{Fn: api.FnSumProduct, Num: api.Num{N: 1, D: 1}, Full: true, V: none}},
		{api.Acc{Fn: api.FnSumProduct, Num: api.Num{N: -top, D: 1}, Held: api.Num{N: 2, D: 1}, Wants: true}, pair(n(top)), api.Acc{Fn: api.FnSumProduct, Num: api.Num{N: -top, D: 1}, Full: true, V: unfit}},
		{api.Acc{Fn: api.FnSumIf, Num: api.Num{N: top, D: 1}, Wants: true}, pair(n(1)), api.Acc{Fn: api.FnSumIf, Num: api.Num{N: top, D: 1}, Full: true, V: unfit}},
		{api.Acc{Fn: api.FnLookup, Num: zeroNum, Needle: n(1), Has: true, Wants: true}, pair(txt("a")), api.Acc{Fn: api.FnLookup, Num: zeroNum, Needle: n(1), Has: true, Full: true, V: txt("a")}},
	} {
		a := back(t, x.s)
		x.x.do(a)
		if got := a.State(); got != x.want {
			t.Fatalf("%sat %s stands at %s", played([]step{x.x}), state(x.s), state(got))
		}
	}
}

func TestCountsAboveTheGreatestNumber(t *testing.T) { // Promises 7.6 to 7.8.
	for _, x := range []struct {
		id         int
		last, past api.Value
	}{
		{api.FnCount, n(top), unfit}, {api.FnCountA, n(top), unfit}, {api.FnAverage, n(0), unfit}, {api.FnXor, is(false), is(true)},
	} {
		a := back(t, api.Acc{Fn: x.id, Num: zeroNum, Count: top - 1})
		v := n(0)
		if x.id == api.FnXor {
			v = n(1)
		}
		for _, want := range []api.Value{x.last, x.past} {
			a.Cell(v)
			if got := a.Result(); got != want || a.Full() {
				t.Fatalf("function %d comes to %s at %s", x.id, told(got), state(a.State()))
			}
		}
		if b, code := Back(a.State()); b != nil || code != api.ErrState {
			t.Fatalf("Back(%s): %d", state(a.State()), code)
		}
	}
	for _, x := range []struct {
		id    int
		found []api.Value
		full  bool
	}{
		{api.FnMatch, []api.Value{n(top)}, true}, {api.FnMatch, []api.Value{none, unfit}, true}, {api.FnCountIf, []api.Value{n(top), unfit}, false},
	} {
		a := back(t, api.Acc{Fn: x.id, Num: zeroNum, Count: top - 1, Needle: n(1), Has: true})
		for i, want := range x.found {
			v := n(1)
			if x.id == api.FnMatch && i < len(x.found)-1 {
				v = n(2)
			}
			a.Cell(v)
			if got := a.Result(); got != want {
				t.Fatalf("function %d comes to %s at %s", x.id, told(got), state(a.State()))
			}
		}
		if a.Full() != x.full || a.State().Count != top-1+len(x.found) {
			t.Fatalf("function %d stands at %s", x.id, state(a.State()))
		}
	}
}

func TestMinAndMaxOfStatesWithoutHas(t *testing.T) { // Promise 7.5: the first one is taken, however great Num is.
	for _, id := range []int{api.FnMin, api.FnMax} {
		for _, k := range []int{-9, 0, 9} {
			a := back(t, api.Acc{Fn: id, Num: api.Num{N: k, D: 1}})
			a.Cell(n(2))
			if got := a.State(); got != (api.Acc{Fn: id, Num: api.Num{N: 2, D: 1}, Has: true}) {
				t.Fatalf("function %d from %d on stands at %s", id, k, state(got))
			}
		}
	}
}

func TestFullStaysFull(t *testing.T) { // Promises 7.3 and 7.9.
	all := steps(append(few(), unright()...)...)
	for _, id := range accs() {
		for _, v := range few() {
			v = counted(v)
			s := begun(id)
			s.Full, s.V, s.Count = true, v, 5
			a := back(t, s)
			for _, x := range slices.Concat(all, all) {
				x.do(a)
				if a.State() != s || a.Result() != v || !a.Full() || a.Wants() {
					t.Fatalf("%sdone to %s makes it %s", played([]step{x}), state(s), state(a.State()))
				}
			}
		}
	}
}
