package view

import (
	"cmp"
	"fmt"
	"reflect"
	"slices"
	"testing"

	"whittle/api"
	"whittle/code"
	"whittle/graph"
	"whittle/machine"
	"whittle/plain"
	"whittle/tree"
)

// universe are the cells of which the model tells; all formulas of the tests that ask it stand in one of them.
func universe() []api.Cell {
	return list("A1 B1 C1 IV1 A2 B2 C2 A3 B3 IV65536 T!A1 T!B1 T!A2 T!B2 T!IV65536 U!A1 U!B2")
}

// number is that of a cell in the universe.
func number(c api.Cell) int { return slices.Index(universe(), c) }

// model is the chapter's words told once more: tables of all twos, worked out anew of texts at each edit; values all at once (chapter 13); a frame is a number of steps, run from its beginning whenever it is asked for; and all moments that have been, through which what a cell tells is sought backwards. Cells go by their numbers in the universe.
type model struct {
	sheets  []string
	version int
	texts   []string
	uses    [][]bool // the cell of the first number uses that of the second one
	hits    [][]bool // reaches
	values  *plain.Values
	stale   []bool
	last    api.Effect
	views   [][]api.Area
	frames  []run
	aborted []api.Cell
	moments []moment // the last one is now
}

// moment is what was told when contents or flags were turned.
type moment struct {
	version int
	texts   []string
	stale   []bool
	values  *plain.Values
}

// run is a task's frame.
type run struct {
	on    bool
	cell  int
	steps int
}

func newModel() *model {
	k := len(universe())
	m := &model{sheets: []string{"S", "T", "U"}, texts: make([]string, k), stale: make([]bool, k)}
	m.views, m.frames = make([][]api.Area, 3), make([]run, 3)
	m.relate()
	m.note()
	return m
}

func (m *model) clone() *model {
	c := *m
	c.texts, c.stale = slices.Clone(m.texts), slices.Clone(m.stale)
	c.views, c.frames, c.moments = slices.Clone(m.views), slices.Clone(m.frames), slices.Clone(m.moments)
	return &c
}

// note keeps the moment.
func (m *model) note() {
	m.moments = append(m.moments, moment{m.version, slices.Clone(m.texts), slices.Clone(m.stale), m.values})
}

// told is what a cell tells: of the last moment at which it was fresh, its value then, and that moment's version.
func (m *model) told(i int) api.Seen {
	for _, then := range slices.Backward(m.moments) {
		if then.stale[i] {
			continue
		}
		seen := api.Seen{V: then.values.Value(universe()[i]), Fresh: !m.stale[i], Ever: then.texts[i] != "", Version: then.version}
		if !seen.Fresh && !seen.Ever {
			return api.Seen{}
		}
		return seen
	}
	panic("it was never fresh")
}

// window is what a task's viewport shows.
func (m *model) window(task int) []api.Shown {
	var l []api.Shown
	for i, c := range universe() {
		if c.Sheet == task && m.texts[i] != "" && m.looked(i) {
			l = append(l, api.Shown{Cell: c, Seen: m.told(i)})
		}
	}
	return l
}

// relate finds who uses whom, who reaches whom, and what all come to.
func (m *model) relate() {
	m.uses, m.hits = nil, nil
	for i, user := range universe() {
		var row []bool
		for _, c := range universe() {
			row = append(row, m.names(user, m.texts[i], c))
		}
		m.uses, m.hits = append(m.uses, row), append(m.hits, slices.Clone(row))
	}
	for mid := range m.hits {
		for i := range m.hits {
			for k := range m.hits {
				m.hits[i][k] = m.hits[i][k] || m.hits[i][mid] && m.hits[mid][k]
			}
		}
	}
	g, why := graph.Restore(m.contents())
	if why != api.OK {
		panic(fmt.Sprint("the model's contents: ", m.texts))
	}
	m.values = plain.Of(g)
}

// names: does a cell's text, if it is a formula, name c or an area that has it, but in ROWS and COLUMNS?
func (m *model) names(home api.Cell, text string, c api.Cell) bool {
	if text == "" || text[0] != '=' {
		return false
	}
	l, _, _ := tree.Parse(text[1:])
	for i, n := range l {
		if i > 0 && (l[i-1].Name == "ROWS" || l[i-1].Name == "COLUMNS") {
			continue
		}
		sheet := home.Sheet
		if n.A.Sheet != "" {
			sheet = slices.Index(m.sheets, n.A.Sheet)
		}
		b := n.A
		switch n.Kind {
		case api.NodeArea:
			b = n.B
		case api.NodeCell:
		default:
			continue
		}
		if c.Sheet == sheet && c.Row >= min(n.A.Row, b.Row) && c.Row <= max(n.A.Row, b.Row) && c.Col >= min(n.A.Col, b.Col) && c.Col <= max(n.A.Col, b.Col) {
			return true
		}
	}
	return false
}

func (m *model) formula(i int) bool { return m.texts[i] != "" && m.texts[i][0] == '=' }

func (m *model) cyclic(i int) bool {
	for k := range m.texts {
		if m.formula(i) && (i == k || m.hits[i][k]) && m.hits[k][k] {
			return true
		}
	}
	return false
}

func (m *model) level(i int) int {
	if !m.formula(i) || m.cyclic(i) {
		return 0
	}
	level := 1
	for k := range m.texts {
		if m.uses[i][k] {
			level = max(level, m.level(k)+1)
		}
	}
	return level
}

// edit is an accepted one.
func (m *model) edit(changes []api.Change) {
	ahead := m.clone()
	var named []int
	for _, change := range changes {
		i := number(change.Cell)
		m.texts[i] = change.Text
		named = append(named, i)
	}
	m.relate()
	m.version++
	m.last = api.Effect{}
	hit := func(i int) bool {
		return slices.ContainsFunc(named, func(k int) bool { return i == k || m.hits[i][k] })
	}
	for i, c := range universe() {
		m.stale[i] = m.formula(i) && !m.cyclic(i) && (hit(i) || ahead.stale[i])
		switch {
		case m.stale[i] && !ahead.stale[i]:
			m.last.Stale = append(m.last.Stale, c)
		case !m.stale[i] && ahead.stale[i]:
			m.last.Fresh = append(m.last.Fresh, c)
		}
	}
	m.aborted = nil
	for task, f := range m.frames {
		if f.on && hit(f.cell) {
			m.aborted = append(m.aborted, universe()[f.cell])
			m.frames[task] = run{}
		}
	}
	m.note()
}

// ready: is it stale, and nothing that it uses?
func (m *model) ready(i int) bool {
	for k := range m.texts {
		if m.uses[i][k] && m.stale[k] {
			return false
		}
	}
	return m.stale[i]
}

// looked: does somebody look at a cell?
func (m *model) looked(i int) bool {
	c := universe()[i]
	return slices.ContainsFunc(m.views[c.Sheet], func(a api.Area) bool {
		return a.Top <= c.Row && c.Row <= a.Bottom && a.Left <= c.Col && c.Col <= a.Right
	})
}

// next is the number of the cell for which a task would do its next step; false, if there is none.
func (m *model) next(task int) (int, bool) {
	if m.frames[task].on {
		return m.frames[task].cell, true
	}
	var l []int
	for i, c := range universe() {
		if c.Sheet == task && m.ready(i) {
			l = append(l, i)
		}
	}
	if len(l) == 0 {
		return 0, false
	}
	rank := func(i int) int {
		if m.looked(i) {
			return 0
		}
		return 1
	}
	// The universe stands in the order of cells, and the sort is stable.
	slices.SortStableFunc(l, func(i, k int) int {
		return cmp.Or(cmp.Compare(rank(i), rank(k)), cmp.Compare(m.level(i), m.level(k)))
	})
	return l[0], true
}

// machineAt is the machine of a cell's formula behind so many steps, over the model's values; and what the last of these did.
func (m *model) machineAt(i, steps int) (*machine.Frame, api.Event) {
	c := universe()[i]
	row, _, _ := tree.Parse(m.texts[i][1:])
	ins, _ := code.Flatten(row, c, m.sheets...)
	f, why := machine.New(ins)
	if why != api.OK {
		panic("no code: " + m.texts[i])
	}
	e := api.Event{}
	for range steps {
		e = api.Event{Cell: c}
		if e.Read, e.Reads = f.Wants(); e.Reads {
			e.V = m.values.Value(e.Read)
		}
		f.Step(e.V)
	}
	if v, done := f.Result(); done {
		e.V, e.Wrote = v, true
	}
	return f, e
}

// step is one of a task; false, if it has nothing to do.
func (m *model) step(task int) (api.Event, bool) {
	i, ok := m.next(task)
	if !ok {
		return api.Event{}, false
	}
	f := &m.frames[task]
	f.on, f.cell, f.steps = true, i, f.steps+1
	_, e := m.machineAt(i, f.steps)
	if e.Wrote {
		*f, m.stale[i] = run{}, false
		m.note()
	}
	return e, true
}

// trace is the steps of a tick.
func (m *model) trace(task, budget int) []api.Event {
	var l []api.Event
	for len(l) < budget {
		e, ok := m.step(task)
		if !ok {
			break
		}
		l = append(l, e)
	}
	return l
}

// flight is a task's frame as data.
func (m *model) flight(task int) api.Flight {
	f := m.frames[task]
	if !f.on {
		return api.Flight{}
	}
	at, _ := m.machineAt(f.cell, f.steps)
	return api.Flight{On: true, Cell: universe()[f.cell], Frame: at.State()}
}

// work is what W3 calls W.
func (m *model) work() int {
	w := 0
	for i, c := range universe() {
		if m.stale[i] {
			w += m.values.Cost(c)
		}
	}
	for _, f := range m.frames {
		w -= f.steps
	}
	return w
}

// contents is the part of the state that says what the cells hold.
func (m *model) contents() api.State {
	s := api.State{Sheets: slices.Clone(m.sheets), Version: m.version}
	for i, c := range universe() {
		if m.texts[i] != "" {
			s.Cells = append(s.Cells, api.Held{Cell: c, Text: m.texts[i]})
		}
	}
	return s
}

// state is the model as plain data.
func (m *model) state() api.State {
	s := m.contents()
	for k := range s.Cells {
		h := &s.Cells[k]
		seen := m.told(number(h.Cell))
		h.Stale, h.V, h.Ever, h.Version = !seen.Fresh, seen.V, seen.Ever, seen.Version
	}
	for task := range m.sheets {
		s.Views = append(s.Views, slices.Clone(m.views[task]))
		s.Frames = append(s.Frames, m.flight(task))
	}
	return s
}

// those are the cells of a sheet whose numbers are so.
func (m *model) those(sheet int, so func(i int) bool) []api.Cell {
	var l []api.Cell
	for i, c := range universe() {
		if c.Sheet == sheet && so(i) {
			l = append(l, c)
		}
	}
	return l
}

// agrees holds all that a view tells of flags, values, frames and viewports against the model.
func agrees(t *testing.T, x *View, want *model) {
	t.Helper()
	for i, c := range universe() {
		if got := read(t, x, c); x.Text(c) != want.texts[i] || got != want.told(i) || x.Value(c) != got.V || x.Stale(c) != want.stale[i] {
			t.Fatalf("Read(%s), which holds %q: %v, want %v; Value %v", names(c), x.Text(c), got, want.told(i), x.Value(c))
		}
	}
	for task := range want.sheets {
		agreesOn(t, task, x, want)
	}
	same(t, "Last, Stale", x.Last().Stale, want.last.Stale)
	same(t, "Last, Fresh", x.Last().Fresh, want.last.Fresh)
	same(t, "Aborted", x.Aborted(), want.aborted)
	if x.Version() != want.version || x.Idle() != !slices.Contains(want.stale, true) {
		t.Fatalf("Version %d, want %d; Idle %v", x.Version(), want.version, x.Idle())
	}
	if got := x.State(); !sameState(got, want.state()) {
		t.Fatalf("State: %v, want %v", got, want.state())
	}
}

// agreesOn is that of one task.
func agreesOn(t *testing.T, task int, x *View, want *model) {
	t.Helper()
	same(t, "StaleOf", x.StaleOf(task), want.those(task, func(i int) bool { return want.stale[i] }))
	same(t, "ReadyOf", x.ReadyOf(task), want.those(task, want.ready))
	next, is := x.Next(task)
	if i, ok := want.next(task); ok != is || ok && universe()[i] != next || !ok && next != (api.Cell{}) {
		t.Fatalf("Next(%d): %s, %v, want %s, %v", task, names(next), is, names(universe()[i]), ok)
	}
	if l, why := x.Window(task); !slices.Equal(l, want.window(task)) || why != api.OK {
		t.Fatalf("Window(%d): %v, %d, want %v", task, l, why, want.window(task))
	}
}

// sameState holds two states against each other; nil and an empty list are one.
func sameState(a, b api.State) bool {
	return slices.Equal(a.Sheets, b.Sheets) && a.Version == b.Version && slices.Equal(a.Cells, b.Cells) && slices.EqualFunc(a.Views, b.Views, slices.Equal[[]api.Area]) && slices.EqualFunc(a.Frames, b.Frames, sameFlight)
}

// sameFlight holds two flights against each other; nil and an empty list are one.
func sameFlight(a, b api.Flight) bool {
	same := slices.Equal(a.Frame.Stack, b.Frame.Stack) && slices.Equal(a.Frame.Accs, b.Frame.Accs)
	a.Frame.Stack, a.Frame.Accs, b.Frame.Stack, b.Frame.Accs = nil, nil, nil, nil
	return same && reflect.DeepEqual(a, b)
}

func same(t *testing.T, call string, got, want []api.Cell) {
	t.Helper()
	if !slices.Equal(got, want) {
		t.Fatalf("%s: %s, want %s", call, names(got...), names(want...))
	}
}
