package marks

import (
	"slices"
	"testing"

	"whittle/api"
	"whittle/tree"
)

// universe are the cells of which the model tells; all formulas of the tests that ask it stand in one of them.
func universe() []api.Cell {
	return list("A1 B1 C1 IV1 A2 B2 C2 A3 B3 IV65536 T!A1 T!B1 T!A2 T!B2 T!IV65536 U!A1 U!B2")
}

// model is the chapter's words told once more: tables of all twos, worked out anew of texts at each edit, and a list of flags. Cells go by their numbers in the universe.
type model struct {
	sheets []string
	texts  []string
	uses   [][]bool // the cell of the first number uses that of the second one
	hits   [][]bool // reaches
	stale  []bool
	last   api.Effect
}

func newModel() *model {
	n := len(universe())
	m := &model{sheets: []string{"S", "T", "U"}, texts: make([]string, n), stale: make([]bool, n)}
	m.relate()
	return m
}

func (m *model) clone() *model {
	c := *m
	c.texts, c.stale = slices.Clone(m.texts), slices.Clone(m.stale)
	return &c
}

// number is that of a cell in the universe.
func number(c api.Cell) int { return slices.Index(universe(), c) }

// relate finds who uses whom and who reaches whom.
func (m *model) relate() {
	m.uses, m.hits = nil, nil
	for i, user := range universe() {
		var row []bool
		for _, c := range universe() {
			row = append(row, m.names(user, m.texts[i], c))
		}
		m.uses, m.hits = append(m.uses, row), append(m.hits, slices.Clone(row))
	}
	for mid := range m.hits {
		for i := range m.hits {
			for k := range m.hits {
				m.hits[i][k] = m.hits[i][k] || m.hits[i][mid] && m.hits[mid][k]
			}
		}
	}
}

// names: does a cell's text, if it is a formula, name c or an area that has it, but in ROWS and COLUMNS?
func (m *model) names(home api.Cell, text string, c api.Cell) bool {
	if text == "" || text[0] != '=' {
		return false
	}
	l, _, _ := tree.Parse(text[1:])
	for i, n := range l {
		if i > 0 && (l[i-1].Name == "ROWS" || l[i-1].Name == "COLUMNS") {
			continue
		}
		sheet := home.Sheet
		if n.A.Sheet != "" {
			sheet = slices.Index(m.sheets, n.A.Sheet)
		}
		b := n.A
		switch n.Kind {
		case api.NodeArea:
			b = n.B
		case api.NodeCell:
		default:
			continue
		}
		if c.Sheet == sheet && c.Row >= min(n.A.Row, b.Row) && c.Row <= max(n.A.Row, b.Row) && c.Col >= min(n.A.Col, b.Col) && c.Col <= max(n.A.Col, b.Col) {
			return true
		}
	}
	return false
}

func (m *model) formula(i int) bool { return m.texts[i] != "" && m.texts[i][0] == '=' }

func (m *model) cyclic(i int) bool {
	for k := range m.texts {
		if m.formula(i) && (i == k || m.hits[i][k]) && m.hits[k][k] {
			return true
		}
	}
	return false
}

// edit is an accepted one.
func (m *model) edit(changes []api.Change) {
	var named []int
	for _, change := range changes {
		i := number(change.Cell)
		m.texts[i] = change.Text
		named = append(named, i)
	}
	m.relate()
	ahead := slices.Clone(m.stale)
	m.last = api.Effect{}
	for i, c := range universe() {
		hit := slices.ContainsFunc(named, func(k int) bool { return i == k || m.hits[i][k] })
		m.stale[i] = m.formula(i) && !m.cyclic(i) && (hit || ahead[i])
		switch {
		case m.stale[i] && !ahead[i]:
			m.last.Stale = append(m.last.Stale, c)
		case !m.stale[i] && ahead[i]:
			m.last.Fresh = append(m.last.Fresh, c)
		}
	}
}

// ready: is it stale, and nothing that it uses?
func (m *model) ready(i int) bool {
	for k := range m.texts {
		if m.uses[i][k] && m.stale[k] {
			return false
		}
	}
	return m.stale[i]
}

func (m *model) done(i int) api.Errno {
	if i < 0 || !m.ready(i) {
		return api.ErrReady
	}
	m.stale[i] = false
	return api.OK
}

// mayBe says whether Restore takes the flags as they are.
func (m *model) mayBe() bool {
	for i := range m.texts {
		if m.stale[i] && (!m.formula(i) || m.cyclic(i)) {
			return false
		}
		if m.stale[i] || !m.formula(i) || m.cyclic(i) {
			continue
		}
		for k := range m.texts {
			if m.uses[i][k] && m.stale[k] {
				return false
			}
		}
	}
	return true
}

// state is the model as plain data.
func (m *model) state() api.State {
	s := api.State{Sheets: slices.Clone(m.sheets)}
	for i, c := range universe() {
		if m.texts[i] != "" {
			s.Cells = append(s.Cells, api.Held{Cell: c, Text: m.texts[i], Stale: m.stale[i]})
		}
	}
	return s
}

// those are the cells of a sheet whose numbers are so.
func (m *model) those(sheet int, so func(i int) bool) []api.Cell {
	var l []api.Cell
	for i, c := range universe() {
		if c.Sheet == sheet && so(i) {
			l = append(l, c)
		}
	}
	return l
}

// agrees holds all that marks tell of flags against the model.
func agrees(t *testing.T, m *Marks, want *model) {
	t.Helper()
	count := 0
	for sheet := range want.sheets {
		stale := want.those(sheet, func(i int) bool { return want.stale[i] })
		count += len(stale)
		same(t, "StaleOf", m.StaleOf(sheet), stale)
		same(t, "ReadyOf", m.ReadyOf(sheet), want.those(sheet, want.ready))
	}
	if m.Count() != count {
		t.Fatalf("Count: %d, want %d", m.Count(), count)
	}
	for i, c := range universe() {
		if m.Stale(c) != want.stale[i] || m.Ready(c) != want.ready(i) || m.Text(c) != want.texts[i] {
			t.Fatalf("%s %q: Stale %v, Ready %v", names([]api.Cell{c}), m.Text(c), m.Stale(c), m.Ready(c))
		}
	}
	same(t, "Last, Stale", m.Last().Stale, want.last.Stale)
	same(t, "Last, Fresh", m.Last().Fresh, want.last.Fresh)
}

func same(t *testing.T, call string, got, want []api.Cell) {
	t.Helper()
	if !slices.Equal(got, want) {
		t.Fatalf("%s: %s, want %s", call, names(got), names(want))
	}
}
