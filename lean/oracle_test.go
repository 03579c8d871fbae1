package lean

import (
	"math/rand"
	"slices"
	"strings"

	"whittle/api"
	"whittle/funcs"
	"whittle/tree"
	"whittle/value"
)

// The chapter's words once more, for the tests alone: each node by itself, asked for again and again; lists that are shifted.

// model is a formula that code.Flatten takes, in a sheet of some.
type model struct {
	l      []api.Node
	own    int
	sheets []string
}

func (m model) kids(i int) []int { return tree.Kids(m.l, i) }

func (m model) isArea(i int) bool { return m.l[i].Kind == api.NodeArea }

func (m model) sheet(name string) int {
	if name == "" {
		return m.own
	}
	return slices.Index(m.sheets, name)
}

func (m model) area(i int) api.Area {
	a, b := m.l[i].A, m.l[i].B
	return api.Area{Sheet: m.sheet(a.Sheet), Top: min(a.Row, b.Row), Left: min(a.Col, b.Col), Bottom: max(a.Row, b.Row), Right: max(a.Col, b.Col)}
}

const (
	folds = " SUM PRODUCT COUNT COUNTA MIN MAX AVERAGE AND OR XOR CONCAT SUMSQ GCD FIRST LAST "
	seeks = " MATCH COUNTIF SUMIF LOOKUP SUMPRODUCT INDEX ROWS COLUMNS "
	lazys = " IF IFERROR CHOOSE "
)

func among(name, list string) bool { return strings.Contains(list, " "+name+" ") }

// settled is what 10.1 says of a node.
func (m model) settled(i int) (api.Value, bool) {
	node, kids := m.l[i], m.kids(i)
	switch {
	case node.Kind == api.NodeValue:
		return node.V, true
	case node.Kind == api.NodeCell || node.Kind == api.NodeArea:
		return blank, false
	case among(node.Name, seeks):
		return m.settledSeek(node.Name, kids)
	case among(node.Name, lazys):
		return m.settledLazy(node.Name, kids)
	}
	var vs []api.Value
	for _, kid := range kids {
		if v, ok := m.settled(kid); ok {
			vs = append(vs, v)
		}
	}
	if len(vs) < len(kids) {
		return blank, false
	}
	switch node.Kind {
	case api.NodeUn:
		return value.Un(node.Op, vs[0]), true
	case api.NodeBin:
		return value.Bin(node.Op, vs[0], vs[1]), true
	}
	f, _ := funcs.Of(node.Name)
	if !among(node.Name, folds) {
		return funcs.Apply(f.Id, vs...), true
	}
	acc, _ := funcs.Open(f.Id)
	for _, v := range vs {
		acc.Feed(v)
	}
	return acc.Result(), true
}

func (m model) settledSeek(name string, kids []int) (api.Value, bool) {
	a := m.area(kids[0])
	switch name {
	case "ROWS":
		return n(a.Bottom - a.Top + 1), true
	case "COLUMNS":
		return n(a.Right - a.Left + 1), true
	case "INDEX":
		_, none, ok := m.index(kids)
		return none, ok && none.Kind == api.Fault
	case "SUMPRODUCT":
		return blank, false
	}
	at := map[string]int{"MATCH": 0, "LOOKUP": 0, "COUNTIF": 1, "SUMIF": 1}[name]
	if v, ok := m.settled(kids[at]); ok && v.Kind == api.Fault {
		return v, true
	}
	return blank, false
}

// index is the cell that settled numbers of INDEX tell, found by going through all of them; or, if they tell none, the fault; false, if they are not settled.
func (m model) index(kids []int) (api.Cell, api.Value, bool) {
	var by []api.Value
	for _, kid := range kids[1:] {
		v, ok := m.settled(kid)
		if !ok {
			return api.Cell{}, blank, false
		}
		by = append(by, v)
	}
	a, k := m.area(kids[0]), 0
	for row := a.Top; row <= a.Bottom; row++ {
		for col := a.Left; col <= a.Right; col++ {
			k++
			told := []api.Value{n(k)}
			if len(by) == 2 {
				told = []api.Value{n(row - a.Top + 1), n(col - a.Left + 1)}
			}
			if slices.Equal(told, by) {
				return api.Cell{Sheet: a.Sheet, Row: row, Col: col}, blank, true
			}
		}
	}
	for _, v := range by {
		if v.Kind == api.Fault {
			return api.Cell{}, v, true
		}
	}
	return api.Cell{}, bad(api.FaultRef), true
}

// decided is the place of the argument that IF, IFERROR, CHOOSE come to, or -1 and a value; false, if the first one is not settled.
func (m model) decided(name string, kids []int) (int, api.Value, bool) {
	first, ok := m.settled(kids[0])
	if !ok {
		return -1, blank, false
	}
	switch name {
	case "IF":
		yes, fault := value.AsTruth(first)
		if fault.Kind == api.Fault {
			return -1, fault, true
		}
		if yes {
			return kids[1], blank, true
		}
		if len(kids) < 3 {
			return -1, truth(false), true
		}
		return kids[2], blank, true
	case "IFERROR":
		if first.Kind != api.Fault {
			return -1, first, true
		}
		return kids[1], blank, true
	}
	k, fault := value.AsNumber(first)
	if fault.Kind == api.Fault {
		return -1, fault, true
	}
	for i := range kids {
		if i > 0 && k == (api.Num{N: i, D: 1}) {
			return kids[i], blank, true
		}
	}
	return -1, bad(api.FaultArg), true
}

func (m model) settledLazy(name string, kids []int) (api.Value, bool) {
	to, v, ok := m.decided(name, kids)
	if ok && to >= 0 {
		return m.settled(to)
	}
	return v, ok
}

// after is lists one behind the other, all places in them counted from the first one's beginning.
func after(lists ...[]api.Ins) []api.Ins {
	var whole []api.Ins
	for _, l := range lists {
		by := len(whole)
		for _, ins := range l {
			switch ins.Op {
			case api.InsBranch:
				ins.A, ins.B = ins.A+by, ins.B+by
			case api.InsJump, api.InsGuard:
				ins.A += by
			case api.InsChoose:
				ins.B, ins.To = ins.B+by, slices.Clone(ins.To)
				for i := range ins.To {
					ins.To[i] += by
				}
			}
			whole = append(whole, ins)
		}
	}
	return whole
}

func one(ins api.Ins) []api.Ins { return []api.Ins{ins} }

func push(v api.Value) []api.Ins { return one(api.Ins{Op: api.InsPush, V: v}) }

// whole is the lean code of a formula.
func (m model) whole() []api.Ins { return append(m.lean(0), api.Ins{Op: api.InsStore}) }

// lean is what 10.3 says of a node, with places counted from its own beginning.
func (m model) lean(i int) []api.Ins {
	node, kids := m.l[i], m.kids(i)
	if v, ok := m.settled(i); ok {
		return push(v)
	}
	if among(node.Name, lazys) {
		if to, _, ok := m.decided(node.Name, kids); ok {
			return m.lean(to)
		}
	}
	if node.Name == "INDEX" {
		if c, _, ok := m.index(kids); ok {
			return one(api.Ins{Op: api.InsLoad, Cell: c})
		}
	}
	var parts [][]api.Ins
	for _, kid := range kids {
		if !m.isArea(kid) {
			parts = append(parts, m.lean(kid))
		}
	}
	switch node.Kind {
	case api.NodeCell:
		return one(api.Ins{Op: api.InsLoad, Cell: api.Cell{Sheet: m.sheet(node.A.Sheet), Row: node.A.Row, Col: node.A.Col}})
	case api.NodeUn:
		return after(parts[0], one(api.Ins{Op: api.InsUn, A: node.Op}))
	case api.NodeBin:
		return after(parts[0], parts[1], one(api.Ins{Op: api.InsBin, A: node.Op}))
	}
	return m.call(node.Name, kids, parts)
}

// call is the lean code of a call, by its arguments' places, and the lean codes of those that are no areas.
func (m model) call(name string, kids []int, parts [][]api.Ins) []api.Ins {
	f, _ := funcs.Of(name)
	begin, feed, end := one(api.Ins{Op: api.InsOpen, A: f.Id}), one(api.Ins{Op: api.InsFeed}), one(api.Ins{Op: api.InsClose})
	scan := func(i int) []api.Ins { return one(api.Ins{Op: api.InsScan, Area: m.area(kids[i])}) }
	both := func(i, j int) []api.Ins {
		return one(api.Ins{Op: api.InsScan2, Area: m.area(kids[i]), Pair: m.area(kids[j])})
	}
	switch name {
	case "MATCH":
		return after(begin, parts[0], feed, scan(1), end)
	case "COUNTIF":
		return after(begin, parts[0], feed, scan(0), end)
	case "SUMIF":
		return after(begin, parts[0], feed, both(0, len(kids)/3*2), end)
	case "LOOKUP":
		return after(begin, parts[0], feed, both(1, 2), end)
	case "SUMPRODUCT":
		return after(begin, both(0, 1), end)
	case "INDEX":
		return after(append(parts, one(api.Ins{Op: api.InsPick, Area: m.area(kids[0]), B: len(parts)}))...)
	case "IF", "IFERROR", "CHOOSE":
		return lazyCode(name, parts)
	}
	if !among(name, folds) {
		return after(append(parts, one(api.Ins{Op: api.InsCall, A: f.Id, B: len(parts)}))...)
	}
	whole := begin
	for i, kid := range kids {
		if m.isArea(kid) {
			whole = after(whole, scan(i))
		} else {
			whole = after(whole, parts[0], feed)
			parts = parts[1:]
		}
	}
	return after(whole, end)
}

// lazyCode is the code of what branches, laid by counting.
func lazyCode(name string, parts [][]api.Ins) []api.Ins {
	if name == "IFERROR" {
		return after(parts[0], one(api.Ins{Op: api.InsGuard, A: 1 + len(parts[1])}), parts[1])
	}
	if name == "IF" {
		if len(parts) == 2 {
			parts = append(parts, push(truth(false)))
		}
		no := 1 + len(parts[1]) + 1
		return after(parts[0], one(api.Ins{Op: api.InsBranch, A: no, B: no + len(parts[2])}), parts[1], one(api.Ins{Op: api.InsJump, A: 1 + len(parts[2])}), parts[2])
	}
	// From the last one on: each of the others ends with a jump over all behind it.
	last := len(parts) - 1
	behind, to := parts[last], []int{1}
	for i := last - 1; i > 0; i-- {
		behind = after(parts[i], one(api.Ins{Op: api.InsJump, A: 1 + len(behind)}), behind)
		for k := range to {
			to[k] += len(parts[i]) + 1
		}
		to = append([]int{1}, to...)
	}
	return after(parts[0], one(api.Ins{Op: api.InsChoose, To: to, B: 1 + len(behind)}), behind)
}

// arguments are the letters of a call's arguments, by any of the numbers that it takes (some, of those that take many).
func arguments(r *rand.Rand, f api.Sig) string {
	args := f.Least + r.Intn(min(f.Most-f.Least, 3)+1)
	var letters strings.Builder
	for i := range args {
		letters.WriteByte(f.Params[min(i, len(f.Params)-1)])
	}
	return letters.String()
}

// someFormula is a formula of any sort, so deep at most: of many a part is settled.
func someFormula(r *rand.Rand, deep int) []api.Node {
	if deep <= 1 || r.Intn(8) == 0 {
		return someLeaf(r)
	}
	switch r.Intn(8) {
	case 0:
		return append([]api.Node{{Kind: api.NodeUn, Op: 1 + r.Intn(3)}}, someFormula(r, deep-1)...)
	case 1:
		op := []int{api.OpAdd, api.OpSub, api.OpMul, api.OpDiv, api.OpPow, api.OpJoin, api.OpEq, api.OpNe, api.OpLt, api.OpLe, api.OpGt, api.OpGe}[r.Intn(12)]
		return slices.Concat([]api.Node{{Kind: api.NodeBin, Op: op}}, someFormula(r, deep-1), someFormula(r, deep-1))
	}
	all := funcs.All()
	f := all[r.Intn(len(all))]
	if r.Intn(2) == 0 {
		// What is not just worked out of its parts comes more often.
		name := strings.Fields(seeks + lazys + lazys)
		f, _ = funcs.Of(name[r.Intn(len(name))])
	}
	letters := arguments(r, f)
	l := []api.Node{{Kind: api.NodeCall, Name: f.Name, Args: len(letters)}}
	for _, letter := range letters {
		if letter == 'a' || letter == 'x' && r.Intn(3) == 0 {
			l = append(l, someArea(r))
		} else {
			l = append(l, someFormula(r, deep-1)...)
		}
	}
	return l
}

func someLeaf(r *rand.Rand) []api.Node {
	if r.Intn(5) < 2 {
		return []api.Node{{Kind: api.NodeCell, A: someRef(r)}}
	}
	vs := []api.Value{n(0), n(1), n(1), n(2), n(2), n(3), n(4), part(1, 2), txt(""), txt("a"), txt("1"), txt(">1"), truth(true), truth(false), bad(api.FaultNA), bad(api.FaultDiv)}
	return []api.Node{{Kind: api.NodeValue, V: vs[r.Intn(len(vs))]}}
}

func someRef(r *rand.Rand) api.Ref {
	return api.Ref{Sheet: []string{"", "", "S", "T"}[r.Intn(4)], Row: r.Intn(4), Col: r.Intn(3), FixRow: r.Intn(2) > 0, FixCol: r.Intn(2) > 0}
}

// someArea is one of two shapes, by any two corners.
func someArea(r *rand.Rand) api.Node {
	a := someRef(r)
	b := api.Ref{Row: a.Row, Col: a.Col, FixRow: r.Intn(2) > 0}
	if r.Intn(5) > 0 {
		b.Row, b.Col = b.Row+2, b.Col+1
	}
	if r.Intn(2) > 0 {
		a.Row, b.Row = b.Row, a.Row
	}
	if r.Intn(2) > 0 {
		a.Col, b.Col = b.Col, a.Col
	}
	return api.Node{Kind: api.NodeArea, A: a, B: b}
}
