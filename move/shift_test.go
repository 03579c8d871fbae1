package move

import (
	"fmt"
	"math"
	"math/big"
	"slices"
	"testing"

	"whittle/api"
	"whittle/tree"
)

// short is a text, or its beginning and its length.
func short(s string) string {
	if len(s) > 60 {
		return fmt.Sprintf("%q.. (%d bytes)", s[:60], len(s))
	}
	return fmt.Sprintf("%q", s)
}

// brief is a row in few letters.
func brief(l []api.Node) string {
	if len(l) > 4 {
		return fmt.Sprintf("%+v.. (%d nodes)", l[:4], len(l))
	}
	return fmt.Sprintf("%+v", l)
}

// shifts are numbers of rows or columns: small ones, those at a limit, and those that a sum would carry out of int.
func shifts(limit int) []int {
	return []int{math.MinInt, math.MinInt + 1, math.MinInt + limit, -1 << 32, -limit - 1, -limit, -limit + 1, -limit + 2, -2, -1, 0, 1, 2, limit - 2, limit - 1, limit, limit + 1, 1 << 32, math.MaxInt - limit, math.MaxInt - 1, math.MaxInt}
}

// edges are rows or columns: the first ones, one in the midst, the last ones.
func edges(limit int) []int { return []int{0, 1, limit / 2, limit - 2, limit - 1} }

// refs are cells of a formula at all edges, fixed and not, of a sheet.
func refs(sheet string) []api.Ref {
	var list []api.Ref
	for _, row := range edges(api.MaxRows) {
		for _, col := range edges(api.MaxCols) {
			for fixed := range 4 {
				list = append(list, api.Ref{Sheet: sheet, Row: row, Col: col, FixRow: fixed&1 > 0, FixCol: fixed&2 > 0})
			}
		}
	}
	return list
}

// further is a row or column so much further, worked out without a bound; false, if there is none.
func further(n, by, limit int, fixed bool) (int, bool) {
	if fixed {
		return n, true
	}
	sum := new(big.Int).Add(big.NewInt(int64(n)), big.NewInt(int64(by)))
	if sum.Sign() < 0 || sum.Cmp(big.NewInt(int64(limit))) >= 0 {
		return 0, false
	}
	return int(sum.Int64()), true
}

// moved is a ref so much further, by the document's words; false, if it is lost.
func moved(r api.Ref, rows, cols int) (api.Ref, bool) {
	row, okRow := further(r.Row, rows, api.MaxRows, r.FixRow)
	col, okCol := further(r.Col, cols, api.MaxCols, r.FixCol)
	return api.Ref{Sheet: r.Sheet, Row: row, Col: col, FixRow: r.FixRow, FixCol: r.FixCol}, okRow && okCol
}

// lost is what stands in the place of a cell or area that there is not any more.
func lost() api.Node {
	return api.Node{Kind: api.NodeValue, V: api.Value{Kind: api.Fault, Fault: api.FaultRef}}
}

// elsewhere is a cell's or an area's node so much further.
func elsewhere(n api.Node, rows, cols int) api.Node {
	a, okA := moved(n.A, rows, cols)
	b, okB := moved(n.B, rows, cols)
	switch {
	case n.Kind == api.NodeCell && okA:
		return api.Node{Kind: api.NodeCell, A: a}
	case n.Kind == api.NodeArea && okA && okB:
		return api.Node{Kind: api.NodeArea, A: a, B: b}
	}
	return lost()
}

// shifted holds what a row is so much further.
func shifted(t *testing.T, l []api.Node, rows, cols int, want []api.Node) {
	t.Helper()
	if got, code := Shift(l, rows, cols); !slices.Equal(got, want) || code != api.OK {
		t.Fatalf("Shift of %s by %d, %d is %s, %d, not %s", brief(l), rows, cols, brief(got), code, brief(want))
	}
}

// holdNode holds what a row of a cell or an area alone is, by all shifts.
func holdNode(t *testing.T, n api.Node) {
	t.Helper()
	for _, rows := range shifts(api.MaxRows) {
		for _, cols := range shifts(api.MaxCols) {
			shifted(t, []api.Node{n}, rows, cols, []api.Node{elsewhere(n, rows, cols)})
		}
	}
}

func TestShiftOfCells(t *testing.T) { // Promise 6.1.
	for _, sheet := range []string{"", "T", "Sheet1"} {
		for _, r := range refs(sheet) {
			holdNode(t, api.Node{Kind: api.NodeCell, A: r})
		}
	}
}

func TestShiftOfAreas(t *testing.T) { // Promise 6.1: two refs, each by itself; corners stay in their order.
	inner := api.Ref{Row: 9, Col: 9}
	for _, sheet := range []string{"", "T"} {
		inner.Sheet = sheet
		for _, r := range refs("") {
			holdNode(t, api.Node{Kind: api.NodeArea, A: inner, B: r})
		}
		for _, r := range refs(sheet) {
			holdNode(t, api.Node{Kind: api.NodeArea, A: r, B: api.Ref{Row: 9, Col: 9}})
		}
	}
	for _, a := range refs("T") {
		for _, b := range refs("") {
			n := api.Node{Kind: api.NodeArea, A: a, B: b}
			for _, by := range [][2]int{{1, 0}, {-1, 0}, {0, 1}, {0, -1}, {1, -1}, {-2, 2}} {
				shifted(t, []api.Node{n}, by[0], by[1], []api.Node{elsewhere(n, by[0], by[1])})
			}
		}
	}
}

// row reads a formula.
func row(t *testing.T, s string) []api.Node {
	t.Helper()
	l, code, at := tree.Parse(s)
	if code != api.OK {
		t.Fatalf("Parse of %s is %d, %d", short(s), code, at)
	}
	return l
}

func TestShiftWithin(t *testing.T) { // Promise 6.1: each ref by itself, and one that is lost takes no other with it.
	l := row(t, "IF(A1>0,SUM(T!A1:B2,$C3),-B2%)")
	want := slices.Clone(l)
	want[2] = lost() // A1
	want[5] = lost() // T!A1:B2
	want[6].A.Row--  // $C3
	want[9].A.Row--  // B2
	want[9].A.Col--
	shifted(t, l, -1, -1, want)
	if got, code := tree.Print(want); got != "IF(#REF!>0,SUM(#REF!,$C2),-A1%)" || code != api.OK {
		t.Fatal("the test's own row is", got, code)
	}
}

// balanced is a row of so many nodes that is no deeper than it must be, with cells as its last parts.
func balanced(nodes int) []api.Node {
	if nodes == 1 {
		return []api.Node{{Kind: api.NodeCell, A: api.Ref{Row: 4, Col: 4}}}
	}
	if nodes%2 == 0 {
		return negated(1, balanced(nodes-1))
	}
	left := (nodes - 1) / 2
	return slices.Concat([]api.Node{{Kind: api.NodeBin, Op: api.OpAdd}}, balanced(left), balanced(nodes-1-left))
}

// negated is a row with so many times - ahead.
func negated(times int, l []api.Node) []api.Node {
	return append(slices.Repeat([]api.Node{{Kind: api.NodeUn, Op: api.OpNeg}}, times), l...)
}

func TestShiftAtTheLimits(t *testing.T) { // Promise 6.1: what Check takes is taken, one more is not.
	for _, l := range [][]api.Node{balanced(api.MaxNodes), negated(api.MaxDeep-1, balanced(1))} {
		want := slices.Clone(l)
		for i, n := range l {
			if n.Kind == api.NodeCell {
				want[i].A.Row, want[i].A.Col = 14, 1
			}
		}
		shifted(t, l, 10, -3, want)
		for i, n := range l {
			if n.Kind == api.NodeCell {
				want[i] = lost()
			}
		}
		shifted(t, l, 0, -5, want)
	}
	unshifted(t, negated(1, balanced(api.MaxNodes)), api.ErrNodes)
	unshifted(t, negated(api.MaxDeep, balanced(1)), api.ErrDeep)
}

// unshifted holds that a row is refused, and why: by what is added too, so that nothing is lost or mended by it.
func unshifted(t *testing.T, l []api.Node, why api.Errno) {
	t.Helper()
	was := slices.Clone(l)
	for _, by := range [][2]int{{0, 0}, {1, 1}, {-1, -1}, {math.MinInt, 0}, {0, math.MaxInt}} {
		if got, code := Shift(l, by[0], by[1]); len(got) != 0 || code != why {
			t.Fatalf("Shift of %s by %v is %s, %d, not %d", brief(l), by, brief(got), code, why)
		}
	}
	if !slices.Equal(l, was) {
		t.Fatalf("Shift has changed what it refused: %s", brief(was))
	}
}

// wrongRefs are refs that no tree has: by one more or less they would be, or would be none either.
func wrongRefs() []api.Ref {
	return []api.Ref{{Row: -1}, {Col: -1}, {Row: api.MaxRows}, {Col: api.MaxCols}, {Row: math.MinInt}, {Col: math.MaxInt}, {Row: -1, FixRow: true}, {Col: api.MaxCols, FixCol: true}, {Sheet: "1"}, {Sheet: "a b"}, {Sheet: "ABCDEFGHIJKLMNOPQ"}}
}

func TestShiftOfNoTree(t *testing.T) { // Promise 6.1: the error of Check.
	one := balanced(1)[0]
	unshifted(t, nil, api.ErrTree)
	unshifted(t, []api.Node{}, api.ErrTree)
	unshifted(t, []api.Node{{}}, api.ErrTree)
	unshifted(t, []api.Node{one, one}, api.ErrTree)
	unshifted(t, []api.Node{{Kind: api.NodeBin, Op: api.OpAdd}, one}, api.ErrTree)
	unshifted(t, []api.Node{{Kind: api.NodeUn, Op: api.OpAdd}, one}, api.ErrTree)
	unshifted(t, []api.Node{{Kind: api.NodeCall, Name: "SUM", Args: 2}, one}, api.ErrTree)
	unshifted(t, []api.Node{{Kind: api.NodeCall, Name: "sum", Args: 1}, one}, api.ErrTree)
	unshifted(t, []api.Node{{Kind: 7, A: one.A}}, api.ErrTree)
	unshifted(t, []api.Node{{Kind: api.NodeCell, A: one.A, Args: 1}}, api.ErrTree)
	unshifted(t, []api.Node{{Kind: api.NodeCell, A: one.A, B: one.A}}, api.ErrTree)
	unshifted(t, []api.Node{{Kind: api.NodeValue}}, api.ErrTree)
	unshifted(t, []api.Node{{Kind: api.NodeArea, A: one.A, B: api.Ref{Sheet: "T"}}}, api.ErrTree)
	for _, r := range wrongRefs() {
		unshifted(t, []api.Node{{Kind: api.NodeCell, A: r}}, api.ErrTree)
		unshifted(t, []api.Node{{Kind: api.NodeArea, A: r, B: one.A}}, api.ErrTree)
		unshifted(t, []api.Node{{Kind: api.NodeArea, A: one.A, B: r}}, api.ErrTree)
	}
	unshifted(t, make([]api.Node, api.MaxNodes), api.ErrTree)
	unshifted(t, make([]api.Node, api.MaxNodes+1), api.ErrNodes)
	unshifted(t, negated(api.MaxDeep, []api.Node{one, one}), api.ErrTree)
}

func TestShiftIsNewMemory(t *testing.T) { // R3.
	for _, s := range []string{"1", "A1", "A1+B2:C3", "$A$1", "SUM(1,2,3,4,5,6)"} {
		l := row(t, s)
		full := append(slices.Clone(l), make([]api.Node, 5)...)
		for i := len(l); i < len(full); i++ {
			full[i].Name = "KEPT"
		}
		was := slices.Clone(full)
		for _, by := range []int{0, 1, -1} {
			got, _ := Shift(full[:len(l)], by, by)
			again, _ := Shift(full[:len(l)], by, by)
			spoil(got)
			if !slices.Equal(full, was) {
				t.Fatalf("Shift of %q has changed its row, or answers it", s)
			}
			if want, _ := Shift(l, by, by); !slices.Equal(again, want) {
				t.Fatalf("two answers of Shift of %q share memory", s)
			}
		}
	}
}

// spoil writes over a row, its spare room too.
func spoil(l []api.Node) {
	l = l[:cap(l)]
	for i := range l {
		l[i] = api.Node{Kind: -1}
	}
}
