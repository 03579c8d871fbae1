package machine

import (
	"math"
	"slices"
	"testing"

	"whittle/api"
)

// takes holds that Back takes a state, and stands so.
func takes(t *testing.T, l []api.Ins, s api.Frame) {
	t.Helper()
	f := back(t, l, s)
	standing(t, f, s)
	if f.Done() != s.Done || f.Steps() != s.Steps || f.Passed() != s.Scans || f.Depth() != len(s.Stack) {
		t.Fatalf("Back(%+v): Done %t, Steps %d, Passed %d, Depth %d", s, f.Done(), f.Steps(), f.Passed(), f.Depth())
	}
	r, ok := f.Result()
	if ok != s.Done || s.Done && r != s.Stack[0] || !s.Done && r != blank {
		t.Fatalf("Back(%+v): Result %v %t", s, r, ok)
	}
}

// turn is a state with something turned.
func turn(s api.Frame, by func(*api.Frame)) api.Frame {
	s = deepCopy(s)
	by(&s)
	return s
}

func TestStateBehindEveryStep(t *testing.T) { // Promise 9.5, row by row.
	f := begin(t, flat(t, "1+SUM(A1:A2)")...)
	one, sum := []api.Value{n(1)}, []api.Acc{begun(api.FnSum)}
	first := []api.Acc{{Fn: api.FnSum, Num: api.Num{N: 7, D: 1}}}
	both := []api.Acc{{Fn: api.FnSum, Num: api.Num{N: 15, D: 2}}}
	for _, s := range []api.Frame{
		{}, {At: 1, Steps: 1, Stack: one}, {At: 2, Steps: 2, Stack: one, Accs: sum}, {At: 2, Steps: 3, Stack: one, Accs: first, Scans: 1}, {At: 3, Steps: 4, Stack: one, Accs: both},
		{At: 4, Steps: 5, Stack: []api.Value{n(1), part(15, 2)}}, {At: 5, Steps: 6, Stack: []api.Value{part(17, 2)}}, {At: 5, Steps: 7, Stack: []api.Value{part(17, 2)}, Done: true},
	} {
		standing(t, f, s)
		standing(t, f, s) // asking turns nothing
		takes(t, flat(t, "1+SUM(A1:A2)"), s)
		v := txt("not asked for")
		if _, ok := f.Wants(); ok {
			v = []api.Value{n(7), part(1, 2)}[f.Passed()]
		}
		if f.Step(v) == s.Done {
			t.Fatal("a step at the end, or none ahead of it")
		}
	}
}

func TestBackAt(t *testing.T) { // Promise 9.5: At is a place of l.
	l := flat(t, "SUM(A1:A3)")
	for _, at := range []int{math.MinInt, -1, len(l), len(l) + 1, math.MaxInt} {
		refused(t, l, api.Frame{At: at}, api.ErrState)
		refused(t, l, api.Frame{At: at, Stack: []api.Value{n(1)}}, api.ErrState)
		refused(t, l, api.Frame{At: at, Accs: []api.Acc{begun(api.FnSum)}}, api.ErrState)
	}
	takes(t, l, api.Frame{})
}

func TestBackSteps(t *testing.T) { // Promise 9.5: from 0 to MaxNum, whatever the code's bounds are.
	l := flat(t, "1+2")
	for _, k := range []int{0, 1, 99, api.MaxNum - 1, api.MaxNum} {
		takes(t, l, api.Frame{Steps: k})
		takes(t, l, api.Frame{At: 3, Stack: []api.Value{n(1)}, Steps: k})
		takes(t, l, api.Frame{At: 3, Stack: []api.Value{n(1)}, Steps: k, Done: true})
	}
	for _, k := range []int{math.MinInt, -1, api.MaxNum + 1, math.MaxInt} {
		refused(t, l, api.Frame{Steps: k}, api.ErrState)
	}
	// Beyond it a frame goes on; what it tells then is no more taken.
	f := back(t, l, api.Frame{Steps: api.MaxNum})
	steps(t, f, 1)
	standing(t, f, api.Frame{At: 1, Steps: api.MaxNum + 1, Stack: []api.Value{n(1)}})
	refused(t, l, f.State(), api.ErrState)
}

func TestBackValues(t *testing.T) { // Promise 9.5: just as many values as stand at At, all right.
	l := []api.Ins{push(n(1)), push(n(2)), push(n(3)), call(api.FnMid, 3), load(at("A1")), branch(8, 9), push(n(4)), jump(9), push(n(5)), bin(api.OpJoin), store()}
	for at, values := range []int{0, 1, 2, 3, 1, 2, 1, 2, 1, 2, 1} {
		for k := range 6 {
			s := api.Frame{At: at, Stack: slices.Repeat([]api.Value{txt("x")}, k)}
			if k == values {
				takes(t, l, s)
			} else {
				refused(t, l, s, api.ErrState)
			}
		}
		for i := range values {
			for _, v := range wrongs() {
				s := api.Frame{At: at, Stack: slices.Repeat([]api.Value{n(1)}, values)}
				s.Stack[i] = v
				refused(t, l, s, api.ErrState)
			}
		}
	}
	takes(t, l, api.Frame{At: 3, Stack: []api.Value{blank, bad(api.FaultNA), truth(true)}})
}

func TestBackFolds(t *testing.T) { // Promise 9.5: just the folds that stand there, by their Fn.
	sum, least := begun(api.FnSum), begun(api.FnMin)
	l := []api.Ins{open(api.FnSum), open(api.FnMin), scan(area("A1:A2")), shut(), feed(), scan(area("A1:A2")), shut(), store()}
	one := []api.Value{n(1)}
	takes(t, l, api.Frame{At: 1, Accs: []api.Acc{sum}})
	takes(t, l, api.Frame{At: 2, Accs: []api.Acc{sum, least}})
	takes(t, l, api.Frame{At: 3, Accs: []api.Acc{sum, least}})
	takes(t, l, api.Frame{At: 4, Accs: []api.Acc{sum}, Stack: one})
	takes(t, l, api.Frame{At: 5, Accs: []api.Acc{sum}})
	for _, s := range []api.Frame{
		{Accs: []api.Acc{sum}}, {At: 1}, {At: 1, Accs: []api.Acc{least}}, {At: 1, Accs: []api.Acc{sum, sum}}, {At: 1, Accs: []api.Acc{sum, least}},
		{At: 2}, {At: 2, Accs: []api.Acc{sum}}, {At: 2, Accs: []api.Acc{least}}, {At: 2, Accs: []api.Acc{least, sum}}, {At: 2, Accs: []api.Acc{sum, sum}}, {At: 2, Accs: []api.Acc{least, least}}, {At: 2, Accs: []api.Acc{sum, least, least}}, {At: 2, Accs: []api.Acc{sum, sum, least}},
		{At: 4, Stack: one}, {At: 4, Stack: one, Accs: []api.Acc{least}}, {At: 4, Stack: one, Accs: []api.Acc{sum, least}}, {At: 4, Accs: []api.Acc{sum}},
		{At: 5, Accs: []api.Acc{least}}, {At: 7, Stack: one, Accs: []api.Acc{sum}}, {At: 7, Stack: one, Accs: []api.Acc{sum}, Done: true}, {At: 1, Accs: []api.Acc{{}}},
	} {
		refused(t, l, s, api.ErrState)
	}
}

func TestBackFoldsThatAreNone(t *testing.T) { // Promise 9.5: each such as funcs.Back takes, the top one and those below it.
	l := []api.Ins{open(api.FnGcd), open(api.FnGcd), scan(area("A1:A2")), shut(), feed(), shut(), store()}
	s := api.Frame{At: 3, Accs: []api.Acc{begun(api.FnGcd), begun(api.FnGcd)}}
	takes(t, l, s)
	for i := range 2 {
		for _, by := range []func(*api.Acc){
			func(a *api.Acc) { a.Count = -1 }, func(a *api.Acc) { a.Count = api.MaxNum + 1 }, func(a *api.Acc) { a.Num = api.Num{} }, func(a *api.Acc) { a.Num = api.Num{N: 1, D: 2} }, func(a *api.Acc) { a.Num.N = -1 },
			func(a *api.Acc) { a.V.Kind = 9 }, func(a *api.Acc) { a.Needle.True = true }, func(a *api.Acc) { a.Wants = true }, func(a *api.Acc) { a.Held = api.Num{N: 0, D: 1} },
		} {
			refused(t, l, turn(s, func(s *api.Frame) { by(&s.Accs[i]) }), api.ErrState)
		}
		for _, by := range []func(*api.Acc){
			func(a *api.Acc) { a.Count = api.MaxNum }, func(a *api.Acc) { a.Num.N = 5 }, func(a *api.Acc) { a.Full, a.V = true, bad(1) }, func(a *api.Acc) { a.Has = true }, func(a *api.Acc) { a.Needle = n(1) },
		} {
			takes(t, l, turn(s, func(s *api.Frame) { by(&s.Accs[i]) }))
		}
	}
}

func TestBackWants(t *testing.T) { // Promise 9.5: of none but the top one, and of that only at an InsScan2 with Scans above 0.
	two := area("A1:A2")
	l := []api.Ins{open(api.FnSumIf), open(api.FnSumIf), push(n(1)), feed(), scan2(two, two), shut(), feed(), scan2(two, two), shut(), store()}
	free := begun(api.FnSumIf)
	want := free
	want.Wants = true
	for at, depth := range []int{0, 1, 2, 2, 2, 2, 1, 1, 1} {
		s := api.Frame{At: at, Accs: slices.Repeat([]api.Acc{free}, depth)}
		if at == 3 || at == 6 {
			s.Stack = []api.Value{n(1)}
		}
		takes(t, l, s)
		for i := range depth {
			for k := range 4 {
				x := turn(s, func(s *api.Frame) { s.Accs[i].Wants, s.Scans = true, k })
				if i == depth-1 && (at == 4 || at == 7) && (k == 1 || k == 2) {
					takes(t, l, x)
				} else {
					refused(t, l, x, api.ErrState)
				}
			}
		}
	}
	refused(t, l, api.Frame{At: 4, Accs: []api.Acc{want, want}, Scans: 1}, api.ErrState)
	refused(t, l, api.Frame{At: 4, Accs: []api.Acc{want, free}, Scans: 1}, api.ErrState)
	takes(t, l, api.Frame{At: 4, Accs: []api.Acc{free, want}, Scans: 1})
	// With Full it is none that funcs.Back takes; of SUMPRODUCT something must be held.
	want.Full = true
	refused(t, l, api.Frame{At: 7, Accs: []api.Acc{want}, Scans: 1}, api.ErrState)
	l = []api.Ins{open(api.FnSumProduct), scan2(two, two), shut(), store()}
	held := begun(api.FnSumProduct)
	held.Wants = true
	refused(t, l, api.Frame{At: 1, Accs: []api.Acc{held}, Scans: 1}, api.ErrState)
	held.Held = api.Num{N: 3, D: 1}
	takes(t, l, api.Frame{At: 1, Accs: []api.Acc{held}, Scans: 1})
	held.Wants = false
	refused(t, l, api.Frame{At: 1, Accs: []api.Acc{held}, Scans: 1}, api.ErrState)
}

func TestBackScans(t *testing.T) { // Promise 9.5: to the cells less 1; to all of them where a partner is wanted; 0 elsewhere; above 0 only if the top one is not Full.
	a := area("B2:C4")
	free, want, full := begun(api.FnLookup), begun(api.FnLookup), begun(api.FnLookup)
	want.Wants, full.Full = true, true
	one := []api.Ins{open(api.FnMin), scan(a), shut(), store()}
	two := []api.Ins{open(api.FnLookup), scan2(a, area("F1:G3")), shut(), store()}
	least := begun(api.FnMin)
	ended := least
	ended.Full, ended.V = true, bad(api.FaultNA)
	for _, x := range []struct {
		l          []api.Ins
		at         int
		acc        api.Acc
		from, upTo int
	}{{one, 1, least, 0, 5}, {one, 1, ended, 0, 0}, {two, 1, free, 0, 5}, {two, 1, want, 1, 6}, {two, 1, full, 0, 0}, {one, 2, least, 0, 0}, {one, 2, ended, 0, 0}, {two, 2, free, 0, 0}, {two, 2, full, 0, 0}, {two, 2, want, 0, -1}} {
		for _, k := range []int{math.MinInt, -2, -1, 0, 1, 2, 3, 4, 5, 6, 7, 8, 1 << 30, math.MaxInt} {
			s := api.Frame{At: x.at, Accs: []api.Acc{x.acc}, Scans: k}
			if k >= x.from && k <= x.upTo {
				takes(t, x.l, s)
			} else {
				refused(t, x.l, s, api.ErrState)
			}
		}
	}
	for _, k := range []int{-1, 1} {
		refused(t, one, api.Frame{Scans: k}, api.ErrState)
		refused(t, one, api.Frame{At: 3, Stack: []api.Value{n(1)}, Scans: k}, api.ErrState)
		refused(t, one, api.Frame{At: 3, Stack: []api.Value{n(1)}, Scans: k, Done: true}, api.ErrState)
	}
	// A pick has an area, and is no scan; a full fold below the top one is nothing to it.
	refused(t, []api.Ins{push(n(1)), pickOf(a, 1), store()}, api.Frame{At: 1, Stack: []api.Value{n(1)}, Scans: 1}, api.ErrState)
	nested := []api.Ins{open(api.FnMin), open(api.FnMin), scan(a), shut(), feed(), shut(), store()}
	takes(t, nested, api.Frame{At: 2, Accs: []api.Acc{ended, least}, Scans: 5})
	refused(t, nested, api.Frame{At: 2, Accs: []api.Acc{least, ended}, Scans: 5}, api.ErrState)
}

func TestBackOfOneCell(t *testing.T) { // Promise 9.5: the last cell of a scan of one.
	one := area("B2:B2")
	acc := begun(api.FnSum)
	l := []api.Ins{open(api.FnSum), scan(one), shut(), store()}
	takes(t, l, api.Frame{At: 1, Accs: []api.Acc{acc}})
	refused(t, l, api.Frame{At: 1, Accs: []api.Acc{acc}, Scans: 1}, api.ErrState)
	l = []api.Ins{open(api.FnSumIf), scan2(one, one), shut(), store()}
	acc = begun(api.FnSumIf)
	refused(t, l, api.Frame{At: 1, Accs: []api.Acc{acc}, Scans: 1}, api.ErrState)
	acc.Wants = true
	takes(t, l, api.Frame{At: 1, Accs: []api.Acc{acc}, Scans: 1})
}

func TestBackDone(t *testing.T) { // Promise 9.5: only at InsStore.
	l := flat(t, "-A1+SUM(A1:A2)")
	sum := []api.Acc{begun(api.FnSum)}
	for at, s := range []api.Frame{{}, {Stack: []api.Value{n(1)}}, {Stack: []api.Value{n(1)}}, {Stack: []api.Value{n(1)}, Accs: sum}, {Stack: []api.Value{n(1)}, Accs: sum}, {Stack: []api.Value{n(1), n(1)}}, {Stack: []api.Value{n(1)}}} {
		s.At = at
		takes(t, l, s)
		s.Done = true
		if at == len(l)-1 {
			takes(t, l, s)
		} else {
			refused(t, l, s, api.ErrState)
		}
	}
	f := back(t, l, api.Frame{At: 6, Steps: 9, Stack: []api.Value{n(4)}, Done: true})
	if r, ok := f.Result(); r != n(4) || !ok || !f.Done() || f.Steps() != 9 || f.Step(blank) {
		t.Fatal("a frame that is done goes on")
	}
	f = back(t, l, api.Frame{At: 6, Steps: 9, Stack: []api.Value{n(4)}})
	steps(t, f, 1)
	if r, ok := f.Result(); r != n(4) || !ok || !f.Done() || f.Steps() != 10 {
		t.Fatal("a frame at InsStore is not done behind its step")
	}
}

func TestBackGoesOn(t *testing.T) { // Promise 9.5: a frame that stands as s says, though none would come there.
	l := flat(t, "SUM(A1:A3)*2")
	acc := begun(api.FnSum)
	acc.Num.N = 100
	f := back(t, l, api.Frame{At: 1, Steps: 50, Accs: []api.Acc{acc}, Scans: 2})
	wants(t, f, "A3")
	scanning(t, f, "A3", 2, 1)
	r, asked := ended(t, f, cells{"A3": n(5)})
	if r != n(210) || f.Steps() != 55 || !slices.Equal(asked, []string{"A3"}) {
		t.Fatal(r, f.Steps(), asked)
	}
}
