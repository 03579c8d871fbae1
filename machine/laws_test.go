package machine

import (
	"math"
	"math/rand"
	"slices"
	"testing"

	"whittle/api"
	"whittle/code"
	"whittle/place"
)

// codes calls it with very many codes, and values for their cells.
func codes(t *testing.T, seed int64, many int, it func(r *rand.Rand, l []api.Ins, cells sheet)) {
	t.Helper()
	r := rand.New(rand.NewSource(seed))
	ops := map[int]int{}
	for range many {
		l := someCode(r, 1+r.Intn(4))
		if why := code.Check(l); why != api.OK {
			t.Fatalf("%v is no code: %d", l, why)
		}
		for _, ins := range l {
			ops[ins.Op]++
		}
		it(r, l, sheet{r, map[api.Cell]api.Value{}})
	}
	for op := api.InsPush; op <= api.InsStore; op++ {
		if ops[op] < many/20 {
			t.Errorf("just %d instructions %d in %d codes", ops[op], op, many)
		}
	}
}

func TestAgainstTheModel(t *testing.T) { // Promises 9.1 to 9.5, of very many codes, step by step.
	codes(t, 91, 4000, func(r *rand.Rand, l []api.Ins, cells sheet) {
		together(t, begin(t, l...), &model{l: l}, cells, func(api.Frame) {})
	})
}

func TestEndsWithinBounds(t *testing.T) { // Promise 9.6: every frame ends, within Bounds, and asks for cells of Uses alone.
	least, most := 0, 0
	codes(t, 96, 4000, func(r *rand.Rand, l []api.Ins, cells sheet) {
		low, high := code.Bounds(l)
		uses := code.Uses(l)
		f := begin(t, l...)
		for !f.Done() {
			v := someValue(r)
			if c, ok := f.Wants(); ok {
				v = cells.of(c)
				if !slices.ContainsFunc(uses, func(a api.Area) bool { return place.Has(a, c) }) {
					t.Fatalf("%v asks for %v, which is not among %v", l, c, uses)
				}
			}
			if !f.Step(v) || f.Steps() > high {
				t.Fatalf("%v goes on behind %d steps of %d", l, f.Steps(), high)
			}
		}
		if f.Steps() < low {
			t.Fatalf("%v ends behind %d steps of %d", l, f.Steps(), low)
		}
		if f.Steps() == low {
			least++
		}
		if f.Steps() == high {
			most++
		}
	})
	if least < 100 || most < 100 {
		t.Error("just", least, "took the least,", most, "the most steps")
	}
}

func TestHangsOnWhatIsAskedFor(t *testing.T) { // Promise 9.6: on the code and the values handed in for the cells that Wants told, on nothing else.
	codes(t, 97, 1000, func(r *rand.Rand, l []api.Ins, cells sheet) {
		f, g := begin(t, l...), begin(t, l...)
		for !f.Done() {
			c, ok := f.Wants()
			if d, also := g.Wants(); c != d || ok != also {
				t.Fatalf("over %v one wants %v %t, the other %v %t", l, c, ok, d, also)
			}
			v, other := someValue(r), someValue(r)
			if ok {
				v = cells.of(c)
				other = v
			}
			f.Step(v)
			g.Step(other)
			if a, b := f.State(), g.State(); !same(a, b) {
				t.Fatalf("over %v one stands at %+v, the other at %+v", l, a, b)
			}
		}
	})
}

func TestBackOfState(t *testing.T) { // Promise 9.7: behind any step, as if nothing had been; twice; and of a frame gone back at every step.
	codes(t, 98, 600, func(r *rand.Rand, l []api.Ins, cells sheet) {
		var all []api.Frame
		together(t, begin(t, l...), &model{l: l}, cells, func(s api.Frame) { all = append(all, s) })
		for i, s := range all {
			f, g := back(t, l, s), back(t, l, s)
			standing(t, f, s)
			for _, want := range all[i+1:] {
				v := someValue(r)
				if c, ok := f.Wants(); ok {
					v = cells.of(c)
				}
				step(t, f, v)
				standing(t, f, want)
				if r.Intn(3) == 0 {
					f = back(t, l, f.State())
				}
			}
			if !f.Done() || f.Step(blank) {
				t.Fatalf("Back(%+v) over %v doesn't end", s, l)
			}
			standing(t, g, s) // it has nothing in common with the other one
		}
	})
}

// wrongInts are numbers at edges and beyond.
func wrongInts(r *rand.Rand, near int) int {
	return []int{math.MinInt, -1, 0, 1, near - 1, near + 1, api.MaxNum, api.MaxNum + 1, math.MaxInt}[r.Intn(9)]
}

// turned is a state with one thing turned.
func turned(r *rand.Rand, l []api.Ins, s api.Frame) api.Frame {
	s = deepCopy(s)
	size := place.Size(l[s.At].Area)
	switch r.Intn(12) {
	case 0:
		s.At = []int{r.Intn(len(l)), s.At - 1, s.At + 1, wrongInts(r, len(l))}[r.Intn(4)]
	case 1:
		s.Steps = wrongInts(r, s.Steps)
	case 2:
		s.Stack = append(s.Stack, someValue(r))
	case 3:
		s.Stack = s.Stack[:max(len(s.Stack)-1, 0)]
	case 4:
		if len(s.Stack) > 0 {
			s.Stack[r.Intn(len(s.Stack))] = append(wrongs(), n(2), blank, txt("x"))[r.Intn(len(wrongs())+3)]
		}
	case 5:
		s.Accs = slices.Insert(s.Accs, r.Intn(len(s.Accs)+1), begun(someFold(r)))
	case 6:
		s.Accs = s.Accs[:max(len(s.Accs)-1, 0)]
	case 7:
		s.Scans = []int{-1, 0, 1, size - 1, size, size + 1, wrongInts(r, size)}[r.Intn(7)]
	case 8:
		s.Done = !s.Done
	default:
		if len(s.Accs) > 0 {
			turnFold(r, &s.Accs[r.Intn(len(s.Accs))])
		}
	}
	return s
}

func turnFold(r *rand.Rand, a *api.Acc) {
	switch r.Intn(8) {
	case 0:
		a.Fn = someFold(r)
	case 1:
		a.Count = wrongInts(r, a.Count)
	case 2:
		a.Num = []api.Num{{}, {N: 1, D: 2}, {N: -1, D: 1}, {N: 5, D: 1}, {N: api.MaxNum, D: 1}, {N: 2, D: 2}}[r.Intn(6)]
	case 3:
		a.V = append(wrongs(), n(2), txt("x"))[r.Intn(len(wrongs())+2)]
	case 4:
		a.Needle, a.Has = someValue(r), !a.Has
	case 5:
		a.Full = !a.Full
	case 6:
		a.Wants = !a.Wants
		if a.Fn == api.FnSumProduct {
			a.Held = []api.Num{{}, {N: 3, D: 1}}[r.Intn(2)]
		}
	case 7:
		a.Held = []api.Num{{}, {N: 3, D: 1}, {N: 2, D: 2}}[r.Intn(3)]
	}
}

func TestBackOfTurnedStates(t *testing.T) { // Promise 9.5: states in which something is turned are refused just as it says; those that are taken go on.
	taken, not := 0, 0
	codes(t, 95, 1500, func(r *rand.Rand, l []api.Ins, cells sheet) {
		var all []api.Frame
		together(t, begin(t, l...), &model{l: l}, cells, func(s api.Frame) { all = append(all, s) })
		for range 40 {
			s := turned(r, l, all[r.Intn(len(all))])
			if r.Intn(4) == 0 && s.At >= 0 && s.At < len(l) {
				s = turned(r, l, s)
			}
			m, ok := modelBack(l, s)
			if !ok {
				not++
				refused(t, l, s, api.ErrState)
				continue
			}
			taken++
			together(t, back(t, l, s), m, cells, func(api.Frame) {})
		}
	})
	if taken < 5000 || not < 5000 {
		t.Error("just", taken, "states are taken,", not, "refused")
	}
}

func TestTwoFramesInTurns(t *testing.T) { // Promise 9.7: two frames over one list have nothing in common.
	codes(t, 99, 1000, func(r *rand.Rand, l []api.Ins, cells sheet) {
		one, two := sheet{r, map[api.Cell]api.Value{}}, cells
		f, g := begin(t, l...), begin(t, l...)
		m, k := &model{l: l}, &model{l: l}
		for !m.done || !k.done {
			if r.Intn(2) == 0 {
				turns(f, m, one)
			} else {
				turns(g, k, two)
			}
			agree(t, f, m)
			agree(t, g, k)
		}
	})
}

// turns does a step of both, with a cell's value.
func turns(f *Frame, m *model, cells sheet) {
	v := blank
	if c, ok := m.wants(); ok {
		v = cells.of(c)
	}
	f.Step(v)
	m.step(v)
}

func TestLongRuns(t *testing.T) { // R1, R8: high stacks, many folds in one another, long scans.
	const many = 70000
	high := slices.Repeat([]api.Ins{push(n(1))}, many)
	high = append(high, slices.Repeat([]api.Ins{bin(api.OpAdd)}, many-1)...)
	comes(t, append(high, store()), nil, n(many), 2*many)
	deep := append(slices.Repeat([]api.Ins{open(api.FnCountA)}, many), shut())
	deep = append(deep, slices.Repeat([]api.Ins{feed(), shut()}, many-1)...)
	deep = append(deep, store())
	comes(t, deep, nil, n(1), 3*many)
	takes(t, deep, api.Frame{At: many, Accs: slices.Repeat([]api.Acc{begun(api.FnCountA)}, many)})
	f := begin(t, open(api.FnCount), scan(api.Area{Bottom: api.MaxRows - 1, Right: 1}), shut(), store())
	for !f.Done() {
		f.Step(n(1))
	}
	if r, _ := f.Result(); r != n(2*api.MaxRows) || f.Steps() != 2*api.MaxRows+3 {
		t.Fatal("a long scan comes to", r, "in", f.Steps())
	}
}
