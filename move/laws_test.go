package move

import (
	"math"
	"slices"
	"testing"

	"whittle/api"
	"whittle/tree"
)

// samples are formulas of every Kind of node, with refs of every sort.
func samples(t *testing.T) [][]api.Node {
	var list [][]api.Node
	for _, s := range []string{"1", "0.000001", `"A1"`, "TRUE", "#REF!", "#N/A", "A1", "$A1", "A$1", "$A$1", "T!C3", "C3:E5", "T!E5:C3", "$C3:E$5", "IV65536", "Y9!$IV$65536:A1", "-B2", "+B2%", "A1+B2*C3", "F()", "SUM(A1:B2,$C$3,2)", "IF(A1=B2,C$3&\"x\",G(-$D4%,T!A1:$B$2,#DIV/0!))"} {
		list = append(list, row(t, s))
	}
	return append(list, balanced(api.MaxNodes), negated(api.MaxDeep-1, balanced(1)))
}

func TestShiftByNothing(t *testing.T) { // Promise 6.4.
	for _, l := range samples(t) {
		shifted(t, l, 0, 0, l)
	}
}

// keeps: is no ref lost on the way?
func keeps(l []api.Node, rows, cols int) bool {
	return !slices.ContainsFunc(l, func(n api.Node) bool {
		return (n.Kind == api.NodeCell || n.Kind == api.NodeArea) && elsewhere(n, rows, cols) == lost()
	})
}

func TestShiftTwice(t *testing.T) { // Promise 6.4: there, and further, is both together.
	steps := []int{-255, -4, -2, -1, 0, 1, 2, 7, 250}
	both := 0
	for _, l := range samples(t) {
		for _, rows := range steps {
			for _, cols := range steps {
				there, _ := Shift(l, rows, cols)
				if !keeps(l, rows, cols) {
					continue
				}
				both++
				for _, moreRows := range steps {
					for _, moreCols := range []int{-3, 0, -cols, 254} {
						whole, _ := Shift(l, rows+moreRows, cols+moreCols)
						shifted(t, there, moreRows, moreCols, whole)
					}
				}
			}
		}
	}
	if both < 300 {
		t.Error("just", both, "shifts lose no ref")
	}
}

func TestLostStaysLost(t *testing.T) { // Promises 6.1 and 6.4: what was lost between does not come back.
	there, _ := Shift(row(t, "A1+T!A1:B2+B2"), -1, 0)
	shifted(t, there, 1, 0, row(t, "#REF!+#REF!+B2"))
}

func TestFixedStays(t *testing.T) { // Promise 6.4.
	for _, s := range []string{"$A$1", "T!$IV$65536", "$A$1:$IV$65536", "T!$C$3:$B$2+$A$1", "SUM($A$1:$B$2,$C$3)", "1+2", `"A1"`, "F()"} {
		l := row(t, s)
		for _, rows := range shifts(api.MaxRows) {
			for _, cols := range shifts(api.MaxCols) {
				shifted(t, l, rows, cols, l)
			}
		}
	}
	copied(t, "=SUM($A$1:$B$2,T!$C$3)", math.MinInt, math.MaxInt, "=SUM($A$1:$B$2,T!$C$3)")
}

func TestShiftKeepsTheRest(t *testing.T) { // Promise 6.5: all that is no ref, and where parts begin.
	for _, l := range samples(t) {
		for _, by := range [][2]int{{0, 0}, {1, 1}, {-1, 0}, {0, -1}, {-2, 3}, {math.MinInt, 0}, {0, math.MaxInt}} {
			got, code := Shift(l, by[0], by[1])
			if code != api.OK || len(got) != len(l) || tree.Check(got) != api.OK {
				t.Fatalf("Shift of %s by %v is %s, %d", brief(l), by, brief(got), code)
			}
			for i, n := range l {
				want := n
				if n.Kind == api.NodeCell || n.Kind == api.NodeArea {
					want = elsewhere(n, by[0], by[1])
				}
				if got[i] != want || !slices.Equal(tree.Kids(got, i), tree.Kids(l, i)) {
					t.Fatalf("Shift of %s by %v has at %d %s", brief(l), by, i, brief(got[i:i+1]))
				}
			}
		}
	}
}

func TestCopyIsShift(t *testing.T) { // Promise 6.2: what is copied is read as what is shifted.
	for _, l := range samples(t) {
		text, _ := tree.Print(l)
		if len(text) >= api.MaxContent {
			continue
		}
		for _, by := range [][2]int{{0, 0}, {1, 1}, {-1, 0}, {0, -1}, {-2, 3}, {math.MinInt, 0}, {0, math.MaxInt}} {
			want, _ := Shift(l, by[0], by[1])
			got, code := Copy("="+text, by[0], by[1])
			if code == api.ErrLong {
				continue
			}
			if read := row(t, got[1:]); code != api.OK || !slices.Equal(read, want) {
				t.Fatalf("Copy of %s by %v is %s, %d", short(text), by, short(got), code)
			}
		}
	}
}

func TestCopyAgain(t *testing.T) { // Promise 6.4, of contents: there and back is its one form.
	for _, s := range []string{"=C3", "= C3 : $E5 ", "=SUM(T!C3:D4,(C$3),$C3)", "=12+(3)", "x", ""} {
		form, _ := Copy(s, 0, 0)
		for _, by := range [][2]int{{-2, -2}, {5, 9}, {100, -1}} {
			there, _ := Copy(s, by[0], by[1])
			copied(t, there, -by[0], -by[1], form)
		}
	}
}
