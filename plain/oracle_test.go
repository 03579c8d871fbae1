package plain

import (
	"slices"
	"strings"

	"whittle/api"
	"whittle/funcs"
	"whittle/graph"
	"whittle/tree"
	"whittle/value"
)

// The chapter's words once more, for the tests alone: a table of who uses whom, each cell asked for again and again, areas gone through cell by cell.

// model is a book's texts, and what is known of who reaches whom.
type model struct {
	sheets []string
	texts  map[api.Cell]string
	rows   map[api.Cell][]api.Node // of the formulas
	cyclic map[api.Cell]int        // 1 of those that are
}

func modelOf(g *graph.Graph) *model {
	m := &model{g.Sheets(), map[api.Cell]string{}, map[api.Cell][]api.Node{}, map[api.Cell]int{}}
	for sheet := range m.sheets {
		for _, c := range g.Cells(sheet) {
			m.texts[c] = g.Text(c)
			if rest, ok := strings.CutPrefix(m.texts[c], "="); ok {
				m.rows[c], _, _ = tree.Parse(rest)
			}
		}
	}
	reach := map[[2]api.Cell]int{}
	for user := range m.rows {
		for c := range m.rows {
			if m.uses(user, c) {
				reach[[2]api.Cell{user, c}] = 1
			}
		}
	}
	for mid := range m.rows {
		for a := range m.rows {
			for b := range m.rows {
				if reach[[2]api.Cell{a, mid}] == 1 && reach[[2]api.Cell{mid, b}] == 1 {
					reach[[2]api.Cell{a, b}] = 1
				}
			}
		}
	}
	for a := range m.rows {
		for b := range m.rows {
			if reach[[2]api.Cell{b, b}] == 1 && (a == b || reach[[2]api.Cell{a, b}] == 1) {
				m.cyclic[a] = 1
			}
		}
	}
	return m
}

// uses: does a formula name c, or an area that has it, but in ROWS and COLUMNS?
func (m *model) uses(user, c api.Cell) bool {
	for i, node := range m.rows[user] {
		if i > 0 && (m.rows[user][i-1].Name == "ROWS" || m.rows[user][i-1].Name == "COLUMNS") {
			continue
		}
		e := asked{m, m.rows[user], user.Sheet, m.sheets}
		if node.Kind == api.NodeCell && e.cell(i) == c || node.Kind == api.NodeArea && slices.Contains(listed(e.area(i)), c) {
			return true
		}
	}
	return false
}

// value is a cell's in the document's words; cost is its formula's steps.
func (m *model) value(c api.Cell) (v api.Value, cost int) {
	switch l, formula := m.rows[c]; {
	case !formula:
		return value.Read(m.texts[c]), 0
	case m.cyclic[c] == 1:
		return bad(api.FaultCircle), 0
	default:
		return asked{m, l, c.Sheet, m.sheets}.whole()
	}
}

// asked is a formula that stands in a sheet of some.
type asked struct {
	m      *model
	l      []api.Node
	own    int
	sheets []string
}

func (e asked) whole() (api.Value, int) {
	v, steps := e.node(0)
	return v, steps + 1
}

func (e asked) kids(i int) []int { return tree.Kids(e.l, i) }

func (e asked) isArea(i int) bool { return e.l[i].Kind == api.NodeArea }

func (e asked) sheet(name string) int {
	if name == "" {
		return e.own
	}
	return slices.Index(e.sheets, name)
}

func (e asked) cell(i int) api.Cell {
	r := e.l[i].A
	return api.Cell{Sheet: e.sheet(r.Sheet), Row: r.Row, Col: r.Col}
}

func (e asked) area(i int) api.Area {
	a, b := e.l[i].A, e.l[i].B
	return api.Area{Sheet: e.sheet(a.Sheet), Top: min(a.Row, b.Row), Left: min(a.Col, b.Col), Bottom: max(a.Row, b.Row), Right: max(a.Col, b.Col)}
}

// listed are an area's cells, row by row.
func listed(a api.Area) []api.Cell {
	var list []api.Cell
	for row := a.Top; row <= a.Bottom; row++ {
		for col := a.Left; col <= a.Right; col++ {
			list = append(list, api.Cell{Sheet: a.Sheet, Row: row, Col: col})
		}
	}
	return list
}

// read is the value of a cell that a formula reads.
func (e asked) read(c api.Cell) api.Value {
	v, _ := e.m.value(c)
	return v
}

// node is what 13.2 and 13.3 say of a node.
func (e asked) node(i int) (api.Value, int) {
	node, kids := e.l[i], e.kids(i)
	f, _ := funcs.Of(node.Name)
	switch {
	case node.Kind == api.NodeValue:
		return node.V, 1
	case node.Kind == api.NodeCell:
		return e.read(e.cell(i)), 1
	case node.Name == "ROWS":
		a := e.area(kids[0])
		return n(a.Bottom - a.Top + 1), 1
	case node.Name == "COLUMNS":
		a := e.area(kids[0])
		return n(a.Right - a.Left + 1), 1
	case node.Name == "INDEX":
		return e.index(kids)
	case node.Name == "IF":
		return e.branch(kids)
	case node.Name == "IFERROR":
		return e.guard(kids)
	case node.Name == "CHOOSE":
		return e.choose(kids)
	case f.Class == api.ClassSeek:
		return e.search(f, kids)
	case f.Class == api.ClassFold:
		return e.fold(f, kids)
	}
	vs, steps := e.all(kids)
	switch node.Kind {
	case api.NodeUn:
		return value.Un(node.Op, vs[0]), steps + 1
	case api.NodeBin:
		return value.Bin(node.Op, vs[0], vs[1]), steps + 1
	}
	return funcs.Apply(f.Id, vs...), steps + 1
}

func (e asked) all(nodes []int) (vs []api.Value, sum int) {
	for _, i := range nodes {
		v, steps := e.node(i)
		vs, sum = append(vs, v), sum+steps
	}
	return vs, sum
}

func (e asked) fold(f api.Sig, kids []int) (api.Value, int) {
	acc, _ := funcs.Open(f.Id)
	sum := 2
	for _, kid := range kids {
		if e.isArea(kid) {
			sum += e.scan(acc, e.area(kid), api.Area{})
			continue
		}
		v, steps := e.node(kid)
		acc.Feed(v)
		sum += steps + 1
	}
	return acc.Result(), sum
}

func (e asked) search(f api.Sig, kids []int) (api.Value, int) {
	at := map[string][3]int{"MATCH": {0, 1, 1}, "COUNTIF": {1, 0, 0}, "SUMIF": {1, 0, len(kids) - 1}, "LOOKUP": {0, 1, 2}, "SUMPRODUCT": {-1, 0, 1}}[f.Name]
	if f.Name == "SUMIF" && len(kids) == 2 {
		at[2] = 0
	}
	acc, _ := funcs.Open(f.Id)
	sum := 2
	if at[0] >= 0 {
		v, steps := e.node(kids[at[0]])
		acc.Feed(v)
		sum = 3 + steps
	}
	sum += e.scan(acc, e.area(kids[at[1]]), e.area(kids[at[2]]))
	return acc.Result(), sum
}

// scan hands over each cell, the empty ones too.
func (e asked) scan(acc *funcs.Acc, a, pair api.Area) int {
	if acc.Full() {
		return 1
	}
	steps := 0
	for k, c := range listed(a) {
		acc.Cell(e.read(c))
		steps++
		if acc.Wants() {
			acc.Pair(e.read(listed(pair)[k]))
			steps++
		}
		if acc.Full() {
			break
		}
	}
	return steps
}

func (e asked) index(kids []int) (api.Value, int) {
	by, steps := e.all(kids[1:])
	a := e.area(kids[0])
	for k, c := range listed(a) {
		if len(by) == 1 && by[0] == n(k+1) || len(by) == 2 && by[0] == n(c.Row-a.Top+1) && by[1] == n(c.Col-a.Left+1) {
			return e.read(c), steps + 1
		}
	}
	for _, v := range by {
		if v.Kind == api.Fault {
			return v, steps + 1
		}
	}
	return bad(api.FaultRef), steps + 1
}

func (e asked) branch(kids []int) (api.Value, int) {
	v, steps := e.node(kids[0])
	yes, fault := value.AsTruth(v)
	switch {
	case fault.Kind == api.Fault:
		return fault, steps + 1
	case yes:
		x, more := e.node(kids[1])
		return x, steps + 1 + more + 1
	case len(kids) == 2:
		return truth(false), steps + 1 + 1
	}
	y, more := e.node(kids[2])
	return y, steps + 1 + more
}

func (e asked) guard(kids []int) (api.Value, int) {
	x, steps := e.node(kids[0])
	if x.Kind != api.Fault {
		return x, steps + 1
	}
	y, more := e.node(kids[1])
	return y, steps + 1 + more
}

func (e asked) choose(kids []int) (api.Value, int) {
	v, steps := e.node(kids[0])
	k, fault := value.AsNumber(v)
	if fault.Kind == api.Fault {
		return fault, steps + 1
	}
	for i, kid := range kids {
		if i == 0 || k != (api.Num{N: i, D: 1}) {
			continue
		}
		x, more := e.node(kid)
		if i < len(kids)-1 {
			more++
		}
		return x, steps + 1 + more
	}
	return bad(api.FaultArg), steps + 1
}
