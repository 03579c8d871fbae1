package code

import (
	"math/rand"
	"reflect"
	"slices"
	"strings"

	"whittle/api"
	"whittle/funcs"
	"whittle/place"
	"whittle/tree"
	"whittle/value"
)

// The chapter's words once more, for the tests alone: by every way one by one, and by lists that are shifted.

// fieldsOf are the fields of each Op.
var fieldsOf = map[int][]string{
	api.InsPush: {"V"}, api.InsLoad: {"Cell"}, api.InsUn: {"A"}, api.InsBin: {"A"}, api.InsCall: {"A", "B"}, api.InsOpen: {"A"},
	api.InsScan: {"Area"}, api.InsScan2: {"Area", "Pair"}, api.InsPick: {"Area", "B"}, api.InsBranch: {"A", "B"}, api.InsJump: {"A"}, api.InsGuard: {"A"}, api.InsChoose: {"To", "B"},
}

// modelRight: is an instruction as the table of 8.1 says?
func modelRight(ins api.Ins) bool {
	fields := reflect.ValueOf(ins)
	for i := range fields.NumField() {
		name := fields.Type().Field(i).Name
		empty := fields.Field(i).IsZero() || name == "To" && len(ins.To) == 0
		if name != "Op" && !empty && !slices.Contains(fieldsOf[ins.Op], name) {
			return false
		}
	}
	a, p := ins.Area, ins.Pair
	switch ins.Op {
	case api.InsPush:
		return value.Right(ins.V)
	case api.InsLoad:
		return place.Right(ins.Cell)
	case api.InsUn:
		return strings.Contains(" 1 2 3 ", words(ins.A))
	case api.InsBin:
		return strings.Contains(" 11 12 13 14 15 16 21 22 23 24 25 26 ", words(ins.A))
	case api.InsCall:
		f, known := funcs.ById(ins.A)
		return known && f.Class == api.ClassScalar && f.Least <= ins.B && ins.B <= f.Most
	case api.InsOpen:
		_, why := funcs.Open(ins.A)
		return why == api.OK
	case api.InsScan:
		return place.RightArea(a)
	case api.InsScan2:
		return place.RightArea(a) && place.RightArea(p) && a.Bottom-a.Top == p.Bottom-p.Top && a.Right-a.Left == p.Right-p.Left
	case api.InsPick:
		return place.RightArea(a) && (ins.B == 1 || ins.B == 2)
	case api.InsChoose:
		return len(ins.To) > 0 && len(ins.To) <= 30
	}
	return ins.Op > 0 && ins.Op <= api.InsStore
}

// words is a small number with blanks around it.
func words(x int) string {
	if x < 0 || x > 99 {
		return "none"
	}
	if x < 10 {
		return " " + string(rune('0'+x)) + " "
	}
	return " " + string(rune('0'+x/10)) + string(rune('0'+x%10)) + " "
}

// moment is where a way stands: what is there, and what it has cost.
type moment struct {
	at          int
	values      []int
	folds       []int
	least, most int
}

// walk goes every way to its end; it panics where there is none.
type walk struct {
	l           []api.Ins
	seen        map[int][2][]int
	least, most int
}

// need panics, as an index that is out of a list does.
func need(ok bool) {
	if !ok {
		panic("no code")
	}
}

// to goes on at a place, with copies of what is there.
func (w *walk) to(m moment, place int) {
	need(place > m.at && place < len(w.l))
	m.at, m.values, m.folds = place, slices.Clone(m.values), slices.Clone(m.folds)
	w.visit(m)
}

func (w *walk) visit(m moment) {
	ins := w.l[m.at]
	if was, come := w.seen[m.at]; come {
		need(len(was[0]) == len(m.values) && slices.Equal(was[1], m.folds))
	}
	w.seen[m.at] = [2][]int{slices.Clone(m.values), slices.Clone(m.folds)}
	m.least++
	switch ins.Op {
	case api.InsScan:
		m.most += place.Size(ins.Area)
	case api.InsScan2:
		m.most += place.Size(ins.Area) + place.Size(ins.Pair)
	default:
		m.most++
	}
	kept := m
	if ins.Op == api.InsStore {
		need(m.at == len(w.l)-1 && len(m.values) == 1 && len(m.folds) == 0)
		w.least, w.most = min(w.least, m.least), max(w.most, m.most)
		return
	}
	w.do(ins, &m)
	switch ins.Op {
	case api.InsJump:
		w.to(m, ins.A)
		return
	case api.InsBranch:
		w.to(m, ins.A)
		w.to(kept, ins.B)
	case api.InsGuard:
		w.to(kept, ins.A)
	case api.InsChoose:
		for _, place := range ins.To {
			w.to(m, place)
		}
		w.to(kept, ins.B)
		return
	}
	w.to(m, m.at+1)
}

// do takes values and folds off, and puts some there.
func (w *walk) do(ins api.Ins, m *moment) {
	off := map[int]int{api.InsUn: 1, api.InsBin: 2, api.InsCall: ins.B, api.InsPick: ins.B, api.InsFeed: 1, api.InsBranch: 1, api.InsGuard: 1, api.InsChoose: 1}[ins.Op]
	m.values = slices.Clone(m.values[:len(m.values)-off])
	switch ins.Op {
	case api.InsPush, api.InsLoad, api.InsUn, api.InsBin, api.InsCall, api.InsPick, api.InsClose:
		m.values = append(m.values, ins.Op)
	}
	switch ins.Op {
	case api.InsOpen:
		m.folds = append(slices.Clone(m.folds), ins.A)
	case api.InsFeed:
		need(len(m.folds) > 0)
	case api.InsScan, api.InsScan2:
		last := m.folds[len(m.folds)-1]
		need((last == api.FnSumIf || last == api.FnLookup || last == api.FnSumProduct) == (ins.Op == api.InsScan2))
	case api.InsClose:
		m.folds = m.folds[:len(m.folds)-1]
	}
}

// modelWays are the bounds of a code; false, if a list is none.
func modelWays(l []api.Ins) (least, most int, ok bool) {
	defer func() {
		if recover() != nil {
			least, most, ok = 0, 0, false
		}
	}()
	for i, ins := range l {
		need(modelRight(ins) && (ins.Op == api.InsStore) == (i == len(l)-1))
	}
	w := walk{l: l, seen: map[int][2][]int{}, least: 1 << 60}
	w.visit(moment{})
	need(len(w.seen) == len(l))
	return w.least, w.most, true
}

// modelUses are the areas of a code, each where it comes first.
func modelUses(l []api.Ins) []api.Area {
	var list []api.Area
	add := func(a api.Area) {
		if !slices.Contains(list, a) {
			list = append(list, a)
		}
	}
	for _, ins := range l {
		switch ins.Op {
		case api.InsLoad:
			add(api.Area{Sheet: ins.Cell.Sheet, Top: ins.Cell.Row, Left: ins.Cell.Col, Bottom: ins.Cell.Row, Right: ins.Cell.Col})
		case api.InsScan, api.InsPick:
			add(ins.Area)
		case api.InsScan2:
			add(ins.Area)
			add(ins.Pair)
		}
	}
	return list
}

// forms are the arguments that a function takes, a letter each, for each number of them.
func forms(name string) []string {
	given := map[string]string{
		"MATCH": "va", "COUNTIF": "av", "SUMIF": "av ava", "LOOKUP": "vaa", "SUMPRODUCT": "aa", "INDEX": "av avv", "ROWS": "a", "COLUMNS": "a",
		"IF": "vv vvv", "IFERROR": "vv", "MOD": "vv", "QUOTIENT": "vv", "POWER": "vv", "REPT": "vv", "FIND": "vv", "ROUND": "v vv", "LEFT": "v vv", "RIGHT": "v vv", "MID": "vvv",
	}
	if s, ok := given[name]; ok {
		return strings.Fields(s)
	}
	from, letter := 1, "x"
	switch {
	case name == "NA":
		return []string{""}
	case name == "CHOOSE":
		from, letter = 2, "v"
	case slices.Contains(strings.Fields("ABS SIGN INT NOT LEN UPPER LOWER TRIM VALUE ISNUMBER ISTEXT ISBLANK ISERROR"), name):
		return []string{"v"}
	case !slices.Contains(strings.Fields("SUM PRODUCT COUNT COUNTA MIN MAX AVERAGE AND OR XOR CONCAT SUMSQ GCD FIRST LAST"), name):
		return nil
	}
	var list []string
	for k := from; k <= 30; k++ {
		list = append(list, strings.Repeat(letter, k))
	}
	return list
}

// model is a formula at its place.
type model struct {
	l     []api.Node
	own   int
	names []string
}

// modelFlatten is what 8.3 and 8.4 say.
func modelFlatten(l []api.Node, home api.Cell, names ...string) ([]api.Ins, api.Errno) {
	if why := tree.Check(l); why != api.OK {
		return nil, why
	}
	if !place.Right(home) {
		return nil, api.ErrCell
	}
	if home.Sheet >= len(names) {
		return nil, api.ErrSheet
	}
	m := model{l, home.Sheet, names}
	for i := range l {
		if why := m.wrong(i); why != api.OK {
			return nil, why
		}
	}
	return append(m.code(0), store()), api.OK
}

func (m model) isArea(i int) bool { return m.l[i].Kind == api.NodeArea }

// sheet is the number of a name; -1, if it has none.
func (m model) sheet(name string) int {
	if name == "" {
		return m.own
	}
	for i, known := range m.names {
		if known == name && i < 16 {
			return i
		}
	}
	return -1
}

func (m model) area(i int) api.Area {
	a, b := m.l[i].A, m.l[i].B
	return api.Area{Sheet: m.sheet(a.Sheet), Top: min(a.Row, b.Row), Left: min(a.Col, b.Col), Bottom: max(a.Row, b.Row), Right: max(a.Col, b.Col)}
}

// wrong is the error of the node at a place alone.
func (m model) wrong(i int) api.Errno {
	kids := tree.Kids(m.l, i)
	switch node := m.l[i]; node.Kind {
	case api.NodeCell, api.NodeArea:
		if m.sheet(node.A.Sheet) == -1 {
			return api.ErrSheet
		}
		if node.Kind == api.NodeArea && i == 0 {
			return api.ErrArea
		}
	case api.NodeUn, api.NodeBin:
		if slices.ContainsFunc(kids, m.isArea) {
			return api.ErrArea
		}
	case api.NodeCall:
		return m.wrongCall(node.Name, kids)
	}
	return api.OK
}

func (m model) wrongCall(name string, kids []int) api.Errno {
	all := forms(name)
	if all == nil {
		return api.ErrName
	}
	at := slices.IndexFunc(all, func(s string) bool { return len(s) == len(kids) })
	if at < 0 {
		return api.ErrArity
	}
	for i, kid := range kids {
		if m.isArea(kid) && all[at][i] == 'v' || !m.isArea(kid) && all[at][i] == 'a' {
			return api.ErrArea
		}
	}
	pair := map[string][2]int{"SUMIF": {0, 2}, "LOOKUP": {1, 2}, "SUMPRODUCT": {0, 1}}[name]
	if pair != [2]int{} && pair[1] < len(kids) {
		a, b := m.area(kids[pair[0]]), m.area(kids[pair[1]])
		if a.Bottom-a.Top != b.Bottom-b.Top || a.Right-a.Left != b.Right-b.Left {
			return api.ErrShape
		}
	}
	return api.OK
}

// after is lists one behind the other, all places in them counted from the first one's beginning.
func after(lists ...[]api.Ins) []api.Ins {
	var whole []api.Ins
	for _, l := range lists {
		by := len(whole)
		for _, ins := range l {
			switch ins.Op {
			case api.InsBranch:
				ins.A, ins.B = ins.A+by, ins.B+by
			case api.InsJump, api.InsGuard:
				ins.A += by
			case api.InsChoose:
				ins.B, ins.To = ins.B+by, slices.Clone(ins.To)
				for i := range ins.To {
					ins.To[i] += by
				}
			}
			whole = append(whole, ins)
		}
	}
	return whole
}

func one(ins api.Ins) []api.Ins { return []api.Ins{ins} }

// code is that of the node at a place, with places counted from its own beginning.
func (m model) code(i int) []api.Ins {
	node, kids := m.l[i], tree.Kids(m.l, i)
	var parts [][]api.Ins
	for _, kid := range kids {
		if !m.isArea(kid) {
			parts = append(parts, m.code(kid))
		}
	}
	switch node.Kind {
	case api.NodeValue:
		return one(api.Ins{Op: api.InsPush, V: node.V})
	case api.NodeCell:
		return one(load(api.Cell{Sheet: m.sheet(node.A.Sheet), Row: node.A.Row, Col: node.A.Col}))
	case api.NodeUn:
		return after(parts[0], one(api.Ins{Op: api.InsUn, A: node.Op}))
	case api.NodeBin:
		return after(parts[0], parts[1], one(api.Ins{Op: api.InsBin, A: node.Op}))
	}
	return m.call(node.Name, kids, parts)
}

// call is the code of a call, by its arguments' places, and the codes of those that are no areas.
func (m model) call(name string, kids []int, parts [][]api.Ins) []api.Ins {
	f, _ := funcs.Of(name)
	begin, end := one(open(f.Id)), one(shut())
	switch name {
	case "MATCH":
		return after(begin, parts[0], one(feed()), one(scan(m.area(kids[1]))), end)
	case "COUNTIF":
		return after(begin, parts[0], one(feed()), one(scan(m.area(kids[0]))), end)
	case "SUMIF":
		return after(begin, parts[0], one(feed()), one(scan2(m.area(kids[0]), m.area(kids[len(kids)/3*2]))), end)
	case "LOOKUP":
		return after(begin, parts[0], one(feed()), one(scan2(m.area(kids[1]), m.area(kids[2]))), end)
	case "SUMPRODUCT":
		return after(begin, one(scan2(m.area(kids[0]), m.area(kids[1]))), end)
	case "INDEX":
		return after(append(parts, one(pick(m.area(kids[0]), len(parts))))...)
	case "ROWS":
		return one(push(m.area(kids[0]).Bottom - m.area(kids[0]).Top + 1))
	case "COLUMNS":
		return one(push(m.area(kids[0]).Right - m.area(kids[0]).Left + 1))
	case "IF", "IFERROR", "CHOOSE":
		return lazy(name, parts)
	}
	if f.Class == api.ClassScalar {
		return after(append(parts, one(call(f.Id, len(parts))))...)
	}
	whole := begin
	for _, kid := range kids {
		if m.isArea(kid) {
			whole = after(whole, one(scan(m.area(kid))))
		} else {
			whole = after(whole, parts[0], one(feed()))
			parts = parts[1:]
		}
	}
	return after(whole, end)
}

// lazy is the code of what branches, laid by counting.
func lazy(name string, parts [][]api.Ins) []api.Ins {
	if name == "IFERROR" {
		return after(parts[0], one(guard(1+len(parts[1]))), parts[1])
	}
	if name == "IF" {
		if len(parts) == 2 {
			parts = append(parts, one(api.Ins{Op: api.InsPush, V: api.Value{Kind: api.Truth}}))
		}
		no := 1 + len(parts[1]) + 1
		return after(parts[0], one(branch(no, no+len(parts[2]))), parts[1], one(jump(1+len(parts[2]))), parts[2])
	}
	// From the last one on: each ends with a jump over all behind it.
	behind, to := parts[len(parts)-1], []int{0}
	for i := len(parts) - 2; i > 0; i-- {
		behind = after(parts[i], one(jump(1+len(behind))), behind)
		for k := range to {
			to[k] += len(parts[i]) + 1
		}
		to = append([]int{0}, to...)
	}
	for k := range to {
		to[k]++
	}
	return after(parts[0], one(choose(1+len(behind), to...)), behind)
}

// anyFormula is a formula of any sort, right ones mostly, so deep at most.
func anyFormula(r *rand.Rand, deep int) []api.Node {
	if deep <= 1 || r.Intn(6) == 0 {
		return anyLeaf(r)
	}
	switch r.Intn(6) {
	case 0:
		return append([]api.Node{{Kind: api.NodeUn, Op: 1 + r.Intn(3)}}, anyFormula(r, deep-1)...)
	case 1:
		op := []int{api.OpAdd, api.OpSub, api.OpMul, api.OpDiv, api.OpPow, api.OpJoin, api.OpEq, api.OpNe, api.OpLt, api.OpLe, api.OpGt, api.OpGe}[r.Intn(12)]
		return slices.Concat([]api.Node{{Kind: api.NodeBin, Op: op}}, anyFormula(r, deep-1), anyFormula(r, deep-1))
	}
	all := funcs.All()
	f := all[r.Intn(len(all))]
	takes := forms(f.Name)
	form := takes[r.Intn(min(len(takes), 4))]
	l := []api.Node{{Kind: api.NodeCall, Name: f.Name, Args: len(form)}}
	for _, letter := range form {
		if letter == 'a' || letter == 'x' && r.Intn(2) == 0 {
			l = append(l, anyArea(r))
		} else {
			l = append(l, anyFormula(r, deep-1)...)
		}
	}
	return l
}

func anyLeaf(r *rand.Rand) []api.Node {
	switch r.Intn(4) {
	case 0:
		vs := []api.Value{n(0), n(7), {Kind: api.Number, Num: api.Num{N: 1, D: 8}}, value.Text("a"), value.Text(""), value.Truth(true), value.Truth(false), value.Fault(api.FaultNA)}
		return []api.Node{{Kind: api.NodeValue, V: vs[r.Intn(len(vs))]}}
	case 1:
		return []api.Node{{Kind: api.NodeCall, Name: "NA"}}
	}
	return []api.Node{{Kind: api.NodeCell, A: anyRef(r)}}
}

func anyRef(r *rand.Rand) api.Ref {
	return api.Ref{Sheet: []string{"", "", "S", "T"}[r.Intn(4)], Row: r.Intn(5), Col: r.Intn(5), FixRow: r.Intn(2) > 0, FixCol: r.Intn(2) > 0}
}

// anyArea is one of a few shapes, by any two corners.
func anyArea(r *rand.Rand) api.Node {
	a := anyRef(r)
	b := api.Ref{Row: a.Row, Col: a.Col, FixRow: r.Intn(2) > 0}
	if r.Intn(5) > 0 {
		b.Row += 2
	}
	if r.Intn(2) > 0 {
		a.Row, b.Row = b.Row, a.Row
	}
	return api.Node{Kind: api.NodeArea, A: a, B: b}
}
