package machine

import (
	"math/rand"
	"slices"
	"testing"

	"whittle/api"
	"whittle/funcs"
	"whittle/value"
)

// The chapter's words once more, for the tests alone: cells as lists, places and values as plain data.

type model struct {
	l                []api.Ins
	at, steps, scans int
	stack            []api.Value
	accs             []*funcs.Acc
	done             bool
}

// listed are an area's cells, row by row.
func listed(a api.Area) []api.Cell {
	var list []api.Cell
	for row := a.Top; row <= a.Bottom; row++ {
		for col := a.Left; col <= a.Right; col++ {
			list = append(list, api.Cell{Sheet: a.Sheet, Row: row, Col: col})
		}
	}
	return list
}

func (m *model) ins() api.Ins { return m.l[m.at] }

func (m *model) scanned() bool {
	return !m.done && (m.ins().Op == api.InsScan || m.ins().Op == api.InsScan2)
}

func (m *model) acc() *funcs.Acc { return m.accs[len(m.accs)-1] }

// wants is what 9.2 says.
func (m *model) wants() (api.Cell, bool) {
	ins := m.ins()
	switch {
	case m.done:
	case ins.Op == api.InsLoad:
		return ins.Cell, true
	case ins.Op == api.InsScan && !m.acc().Full():
		return listed(ins.Area)[m.scans], true
	case ins.Op == api.InsScan2 && m.acc().Wants():
		return listed(ins.Pair)[m.scans-1], true
	case ins.Op == api.InsScan2 && !m.acc().Full():
		return listed(ins.Area)[m.scans], true
	case ins.Op == api.InsPick:
		tops := m.stack[len(m.stack)-ins.B:]
		for k, c := range listed(ins.Area) {
			if ins.B == 1 && tops[0] == n(k+1) || ins.B == 2 && tops[0] == n(c.Row-ins.Area.Top+1) && tops[1] == n(c.Col-ins.Area.Left+1) {
				return c, true
			}
		}
	}
	return api.Cell{}, false
}

// off takes values off.
func (m *model) off(many int) []api.Value {
	rest := len(m.stack) - many
	tops := slices.Clone(m.stack[rest:])
	m.stack = slices.Clone(m.stack[:rest])
	return tops
}

func (m *model) on(v api.Value) { m.stack = append(slices.Clone(m.stack), v) }

func (m *model) goTo(place int) { m.at, m.scans = place, 0 }

// step is what 9.3 says.
func (m *model) step(v api.Value) bool {
	if m.done {
		return false
	}
	_, told := m.wants()
	if !value.Right(v) {
		v = bad(api.FaultValue)
	}
	m.steps++
	if m.ins().Op >= api.InsBranch {
		m.turn()
	} else if m.act(v, told) {
		m.goTo(m.at + 1)
	}
	return true
}

// act does a step that doesn't branch; is the instruction left?
func (m *model) act(v api.Value, told bool) bool {
	switch ins := m.ins(); ins.Op {
	case api.InsPush:
		m.on(ins.V)
	case api.InsLoad:
		m.on(v)
	case api.InsUn:
		m.on(value.Un(ins.A, m.off(1)[0]))
	case api.InsBin:
		second := m.off(1)[0]
		m.on(value.Bin(ins.A, m.off(1)[0], second))
	case api.InsCall:
		m.on(funcs.Apply(ins.A, m.off(ins.B)...))
	case api.InsOpen:
		a, _ := funcs.Open(ins.A)
		m.accs = append(slices.Clone(m.accs), a)
	case api.InsFeed:
		m.acc().Feed(m.off(1)[0])
	case api.InsScan, api.InsScan2:
		if told && m.acc().Wants() {
			m.acc().Pair(v)
		} else if told {
			m.acc().Cell(v)
			m.scans++
		}
		return m.acc().Full() || m.scans == len(listed(ins.Area)) && !m.acc().Wants()
	case api.InsClose:
		m.on(m.acc().Result())
		m.accs = slices.Clone(m.accs[:len(m.accs)-1])
	case api.InsPick:
		x := bad(api.FaultRef)
		for _, by := range slices.Backward(m.off(ins.B)) {
			if by.Kind == api.Fault {
				x = by
			}
		}
		if told {
			x = v
		}
		m.on(x)
	}
	return true
}

// turn does a step that branches, or the last one.
func (m *model) turn() {
	ins := m.ins()
	switch ins.Op {
	case api.InsJump:
		m.goTo(ins.A)
		return
	case api.InsStore:
		m.done = true
		return
	}
	v, next := m.off(1)[0], m.at+1
	switch ins.Op {
	case api.InsBranch:
		yes, fault := value.AsTruth(v)
		if !yes {
			next = ins.A
		}
		if fault.Kind == api.Fault {
			next = ins.B
			m.on(fault)
		}
	case api.InsGuard:
		if v.Kind != api.Fault {
			next = ins.A
			m.on(v)
		}
	case api.InsChoose:
		next = ins.B
		k, fault := value.AsNumber(v)
		for i, place := range ins.To {
			if fault.Kind != api.Fault && k == (api.Num{N: i + 1, D: 1}) {
				next = place
			}
		}
		if fault.Kind == api.Fault {
			m.on(fault)
		} else if k.D != 1 || k.N <= 0 || k.N > len(ins.To) {
			m.on(bad(api.FaultArg))
		}
	}
	m.goTo(next)
}

func (m *model) state() api.Frame {
	s := api.Frame{At: m.at, Steps: m.steps, Stack: slices.Clone(m.stack), Scans: m.scans, Done: m.done}
	for _, a := range m.accs {
		s.Accs = append(s.Accs, a.State())
	}
	return s
}

// modelBack is what 9.5 says of a code.
func modelBack(l []api.Ins, s api.Frame) (*model, bool) {
	if s.At < 0 || s.At > len(l)-1 || s.Steps < 0 || s.Steps > 1000000000000 || s.Done && s.At < len(l)-1 {
		return nil, false
	}
	values, folds := heightAt(l, s.At)
	if len(s.Stack) != values || len(s.Accs) != len(folds) {
		return nil, false
	}
	for _, v := range s.Stack {
		if !value.Right(v) {
			return nil, false
		}
	}
	m := &model{l: l, at: s.At, steps: s.Steps, scans: s.Scans, stack: slices.Clone(s.Stack), done: s.Done}
	for i, a := range s.Accs {
		acc, why := funcs.Back(a)
		top := i == len(s.Accs)-1 && l[s.At].Op == api.InsScan2 && s.Scans > 0
		if why != api.OK || a.Fn != folds[i] || a.Wants && !top {
			return nil, false
		}
		m.accs = append(m.accs, acc)
	}
	if !m.scanned() {
		return m, s.Scans == 0
	}
	size := len(listed(l[s.At].Area))
	all := s.Scans == size && m.acc().Wants()
	return m, s.Scans >= 0 && (s.Scans < size || all) && (s.Scans == 0 || !m.acc().Full())
}

// heightAt is what stands at a place of a code, by one way to it, which is looked for from its end.
func heightAt(l []api.Ins, at int) (values int, folds []int) {
	if at == 0 {
		return 0, nil
	}
	for from := at - 1; ; from-- {
		ins := l[from]
		next := at == from+1 && ins.Op != api.InsJump && ins.Op != api.InsChoose
		lost := ins.Op == api.InsBranch && (next || at == ins.A) || ins.Op == api.InsGuard && next || slices.Contains(ins.To, at)
		kept := ins.Op == api.InsBranch && at == ins.B || ins.Op == api.InsGuard && at == ins.A || ins.Op == api.InsJump && at == ins.A || ins.Op == api.InsChoose && at == ins.B
		if !next && !lost && !kept {
			continue
		}
		values, folds = heightAt(l, from)
		if lost {
			values--
		}
		if next && ins.Op < api.InsBranch {
			values, folds = changed(ins, values, folds)
		}
		return values, folds
	}
}

// changed is what an instruction that doesn't branch hands on.
func changed(ins api.Ins, values int, folds []int) (int, []int) {
	switch ins.Op {
	case api.InsPush, api.InsLoad:
		return values + 1, folds
	case api.InsBin, api.InsFeed:
		return values - 1, folds
	case api.InsCall, api.InsPick:
		return values - ins.B + 1, folds
	case api.InsOpen:
		return values, append(slices.Clone(folds), ins.A)
	case api.InsClose:
		return values + 1, folds[:len(folds)-1]
	}
	return values, folds
}

// writer writes codes of all sorts, such as no formula has too.
type writer struct {
	r     *rand.Rand
	l     []api.Ins
	folds []int
}

func (w *writer) lay(ins api.Ins) int {
	w.l = append(w.l, ins)
	return len(w.l) - 1
}

func someValue(r *rand.Rand) api.Value {
	vs := []api.Value{blank, blank, n(0), n(1), n(1), n(2), n(2), n(3), part(1, 2), n(-1), n(api.MaxNum), txt(""), txt("a"), txt("2"), txt(">1"), txt("TRUE"), truth(true), truth(false), bad(api.FaultNA), bad(api.FaultDiv)}
	return vs[r.Intn(len(vs))]
}

func someCell(r *rand.Rand) api.Cell {
	return api.Cell{Sheet: r.Intn(2), Row: r.Intn(4), Col: r.Intn(3)}
}

func someArea(r *rand.Rand, rows, cols int) api.Area {
	c := someCell(r)
	return api.Area{Sheet: c.Sheet, Top: c.Row, Left: c.Col, Bottom: c.Row + rows - 1, Right: c.Col + cols - 1}
}

// passes writes a scan for the top fold.
func (w *writer) passes() {
	rows, cols := 1+w.r.Intn(3), 1+w.r.Intn(2)
	a, b := someArea(w.r, rows, cols), someArea(w.r, rows, cols)
	if last := w.folds[len(w.folds)-1]; last == api.FnSumIf || last == api.FnLookup || last == api.FnSumProduct {
		w.lay(scan2(a, b))
	} else {
		w.lay(scan(a))
	}
}

// one writes what puts one value more on the stack, so deep at most.
func (w *writer) one(deep int) {
	if len(w.folds) > 0 && w.r.Intn(5) == 0 {
		w.passes()
	}
	if deep == 0 {
		w.leaf()
		return
	}
	switch w.r.Intn(9) {
	case 0:
		w.leaf()
	case 1:
		w.one(deep - 1)
		w.lay(un(1 + w.r.Intn(3)))
	case 2:
		w.one(deep - 1)
		w.one(deep - 1)
		w.lay(bin([]int{11, 12, 13, 14, 15, 16, 21, 22, 23, 24, 25, 26}[w.r.Intn(12)]))
	case 3:
		w.scalar(deep)
	case 4, 5:
		w.fold(deep)
	case 6:
		b := 1 + w.r.Intn(2)
		for range b {
			w.one(w.r.Intn(2) * (deep - 1))
		}
		w.lay(pickOf(someArea(w.r, 1+w.r.Intn(3), 1+w.r.Intn(3)), b))
	default:
		w.one(w.r.Intn(2) * (deep - 1))
		w.branches(deep)
	}
}

func (w *writer) leaf() {
	if w.r.Intn(2) == 0 {
		w.lay(load(someCell(w.r)))
	} else {
		w.lay(push(someValue(w.r)))
	}
	if w.r.Intn(10) == 0 {
		w.lay(jump(len(w.l) + 1))
	}
}

func (w *writer) scalar(deep int) {
	all := funcs.All()
	sig := all[w.r.Intn(len(all))]
	for sig.Class != api.ClassScalar {
		sig = all[w.r.Intn(len(all))]
	}
	for range sig.Most {
		w.one(deep - 1)
	}
	w.lay(call(sig.Id, sig.Most))
}

// someFold is the number of a fold or search.
func someFold(r *rand.Rand) int {
	return []int{1, 2, 3, 4, 5, 6, 7, 8, 9, 10, 11, 12, 13, 14, 15, 20, 21, 22, 23, 24, 22, 23, 24}[r.Intn(23)]
}

func (w *writer) fold(deep int) {
	id := someFold(w.r)
	end := -1
	if w.r.Intn(6) == 0 {
		// Opened at two places, gone on with at one.
		w.leaf()
		end = w.lay(branch(len(w.l)+3, 0))
		w.lay(open(id))
		w.lay(jump(len(w.l) + 2))
	}
	w.lay(open(id))
	w.folds = append(w.folds, id)
	for range w.r.Intn(4) {
		if w.r.Intn(2) == 0 {
			w.passes()
		} else {
			w.one(deep - 1)
			w.lay(feed())
		}
	}
	w.folds = w.folds[:len(w.folds)-1]
	w.lay(shut())
	if end >= 0 {
		w.l[end].B = len(w.l)
	}
}

// branches writes what stands behind a value that is there.
func (w *writer) branches(deep int) {
	switch w.r.Intn(3) {
	case 0:
		at := w.lay(branch(0, 0))
		w.one(deep - 1)
		end := w.lay(jump(0))
		w.l[at].A = len(w.l)
		w.one(deep - 1)
		w.l[at].B, w.l[end].A = len(w.l), len(w.l)
	case 1:
		at := w.lay(guard(0))
		w.one(deep - 1)
		w.l[at].A = len(w.l)
	case 2:
		at := w.lay(choose(0))
		var ends []int
		many := 1 + w.r.Intn(3)
		for k := range many {
			w.l[at].To = append(w.l[at].To, len(w.l))
			w.one(deep - 1)
			if k < many-1 {
				ends = append(ends, w.lay(jump(0)))
			}
		}
		for _, end := range ends {
			w.l[end].A = len(w.l)
		}
		w.l[at].B = len(w.l)
		w.r.Shuffle(many, func(i, k int) { w.l[at].To[i], w.l[at].To[k] = w.l[at].To[k], w.l[at].To[i] })
		w.l[at].To = append(w.l[at].To, w.l[at].To[0])
	}
}

// someCode is a code.
func someCode(r *rand.Rand, deep int) []api.Ins {
	w := writer{r: r}
	w.one(deep)
	w.lay(store())
	return w.l
}

// sheet tells values of cells, each once for all.
type sheet struct {
	r    *rand.Rand
	held map[api.Cell]api.Value
}

func (s sheet) of(c api.Cell) api.Value {
	v, known := s.held[c]
	if !known {
		v = someValue(s.r)
		if s.r.Intn(30) == 0 {
			v = wrongs()[s.r.Intn(len(wrongs()))]
		}
		s.held[c] = v
	}
	return v
}

// agree holds all that a frame tells against the model.
func agree(t *testing.T, f *Frame, m *model) {
	t.Helper()
	want := m.state()
	if got := f.State(); !same(got, want) {
		t.Fatalf("over %v it stands at %+v, not at %+v", m.l, got, want)
	}
	c, some := f.Wants()
	if mc, ms := m.wants(); c != mc || some != ms {
		t.Fatalf("over %v at %+v it wants %v %t, not %v %t", m.l, want, c, some, mc, ms)
	}
	stacked(t, f, m.stack...)
	if f.Done() != m.done || f.Steps() != m.steps {
		t.Fatalf("over %v at %+v: Done %t, Steps %d", m.l, want, f.Done(), f.Steps())
	}
	if r, ok := f.Result(); ok != m.done || ok && r != m.stack[0] || !ok && r != blank {
		t.Fatalf("over %v at %+v: Result %v %t", m.l, want, r, ok)
	}
	var left []api.Cell
	if m.scanned() {
		left = listed(m.ins().Area)[m.scans:]
	}
	next, more := f.Peek()
	if f.Passed() != m.scans || f.Left() != len(left) || more != (len(left) > 0) || more && next != left[0] || !more && next != (api.Cell{}) {
		t.Fatalf("over %v at %+v: Peek %v %t, Passed %d, Left %d", m.l, want, next, more, f.Passed(), f.Left())
	}
}

// together runs a frame and the model to their end, and calls it behind every step with the state.
func together(t *testing.T, f *Frame, m *model, cells sheet, it func(api.Frame)) {
	t.Helper()
	for {
		agree(t, f, m)
		it(f.State())
		v := someValue(cells.r)
		if c, ok := m.wants(); ok {
			v = cells.of(c)
		}
		got, want := f.Step(v), m.step(v)
		if got != want {
			t.Fatalf("over %v at %+v: Step is %t", m.l, m.state(), got)
		}
		if !want {
			agree(t, f, m)
			return
		}
	}
}
