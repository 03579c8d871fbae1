package graph

import (
	"slices"
	"testing"

	"whittle/api"
	"whittle/tree"
)

// universe are the cells of which the model tells; all formulas of the tests that ask it stand in one of them.
func universe() []api.Cell {
	return sorted(list("A1 B1 C1 A2 B2 C2 A3 B3 IV1 IV65536 T!A1 T!B1 T!A2 T!B2 T!IV65536 U!A1 U!B2"))
}

// model is who uses whom in the document's words: a table of all twos, worked out anew of texts.
type model struct {
	sheets []string
	cells  []api.Cell // in their order
	holds  []bool     // a formula
	uses   [][]bool   // the cell of the first number uses that of the second one
	hits   [][]bool   // reaches
}

func modelOf(g *Graph) *model {
	m := &model{sheets: g.Sheets(), cells: universe()}
	for _, user := range m.cells {
		text := g.Text(user)
		m.holds = append(m.holds, text != "" && text[0] == '=')
		var row []bool
		for _, c := range m.cells {
			row = append(row, m.names(user, text, c))
		}
		m.uses = append(m.uses, row)
	}
	m.close()
	return m
}

// names: does a cell's text, if it is a formula, name c or an area that has it, but in ROWS and COLUMNS?
func (m *model) names(home api.Cell, text string, c api.Cell) bool {
	if text == "" || text[0] != '=' {
		return false
	}
	l, _, _ := tree.Parse(text[1:])
	for i, n := range l {
		if i > 0 && (l[i-1].Name == "ROWS" || l[i-1].Name == "COLUMNS") {
			continue
		}
		sheet := home.Sheet
		if n.A.Sheet != "" {
			sheet = slices.Index(m.sheets, n.A.Sheet)
		}
		b := n.A
		switch n.Kind {
		case api.NodeArea:
			b = n.B
		case api.NodeCell:
		default:
			continue
		}
		if c.Sheet == sheet && c.Row >= min(n.A.Row, b.Row) && c.Row <= max(n.A.Row, b.Row) && c.Col >= min(n.A.Col, b.Col) && c.Col <= max(n.A.Col, b.Col) {
			return true
		}
	}
	return false
}

// close finds who reaches whom: by ways through no cell, then also the first one, the second one, and so on.
func (m *model) close() {
	for _, row := range m.uses {
		m.hits = append(m.hits, slices.Clone(row))
	}
	for mid := range m.cells {
		for i := range m.cells {
			for k := range m.cells {
				m.hits[i][k] = m.hits[i][k] || m.hits[i][mid] && m.hits[mid][k]
			}
		}
	}
}

// those are the cells whose numbers are so.
func (m *model) those(so func(i int) bool) []api.Cell {
	var l []api.Cell
	for i, c := range m.cells {
		if so(i) {
			l = append(l, c)
		}
	}
	return l
}

func (m *model) users(c int) []api.Cell {
	return m.those(func(i int) bool { return m.uses[i][c] })
}

func (m *model) reach(cs ...int) []api.Cell {
	return m.those(func(i int) bool {
		return slices.ContainsFunc(cs, func(c int) bool { return m.hits[i][c] })
	})
}

func (m *model) cyclic(i int) bool {
	round := m.hits[i][i]
	for k := range m.cells {
		round = round || m.hits[i][k] && m.hits[k][k]
	}
	return m.holds[i] && round
}

func (m *model) level(i int) int {
	if !m.holds[i] || m.cyclic(i) {
		return 0
	}
	most := 1
	for k := range m.cells {
		if m.uses[i][k] {
			most = max(most, m.level(k)+1)
		}
	}
	return most
}

// path asks, for each number of steps, from which cells the last one can be come to in just so many; then it goes the least way.
func (m *model) path(from, to int) []api.Cell {
	if !m.hits[to][from] {
		return nil
	}
	end := make([]bool, len(m.cells))
	end[to] = true
	can := [][]bool{end}
	for len(can) == 1 || !can[len(can)-1][from] {
		ahead := make([]bool, len(m.cells))
		for x := range m.cells {
			for y := range m.cells {
				ahead[x] = ahead[x] || m.uses[y][x] && can[len(can)-1][y]
			}
		}
		can = append(can, ahead)
	}
	way := []api.Cell{m.cells[from]}
	for left := len(can) - 2; left >= 0; left-- {
		next := 0
		for !m.uses[next][from] || !can[left][next] {
			next++
		}
		way = append(way, m.cells[next])
		from = next
	}
	return way
}

func (m *model) circle(i int) []api.Cell {
	if !m.cyclic(i) {
		return nil
	}
	if m.hits[i][i] {
		return m.path(i, i)
	}
	x := 0
	for !m.hits[i][x] || !m.hits[x][x] {
		x++
	}
	return m.path(x, x)
}

// agrees holds all that a graph tells against the model.
func agrees(t *testing.T, g *Graph) {
	t.Helper()
	m := modelOf(g)
	for i, c := range m.cells {
		same(t, "Users", g.Users(c), m.users(i), c)
		same(t, "Reach", g.Reach(c), m.reach(i), c)
		same(t, "Circle", g.Circle(c), m.circle(i), c)
		if g.Cyclic(c) != m.cyclic(i) || g.Level(c) != m.level(i) {
			t.Fatalf("%s: cyclic %v, want %v; level %d, want %d", names([]api.Cell{c}), g.Cyclic(c), m.cyclic(i), g.Level(c), m.level(i))
		}
		for k, to := range m.cells {
			same(t, "Path", g.Path(c, to), m.path(i, k), c, to)
			same(t, "Reach", g.Reach(c, to), m.reach(i, k), c, to)
		}
	}
	same(t, "Reach", g.Reach(m.cells...), m.those(func(i int) bool { return slices.Contains(m.uses[i], true) }), m.cells...)
}

func same(t *testing.T, call string, got, want []api.Cell, of ...api.Cell) {
	t.Helper()
	if !slices.Equal(got, want) {
		t.Fatalf("%s(%s): %s, want %s", call, names(of), names(got), names(want))
	}
}
