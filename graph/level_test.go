package graph

import (
	"testing"

	"whittle/api"
)

func TestLevels(t *testing.T) { // Promise 12.3: empty cells, constants, formulas that use nothing, empty cells alone, constants alone.
	g := opened(t, "A1", "1", "B1", "x", "C1", "#N/A", "A2", "=1", "B2", "=Z9", "C2", "=A1", "D2", "=SUM(Y1:Z99)", "E2", "=A1+B1+C1+Z9", "F2", "=ROWS(A2:F9)", "G2", "=NA()")
	levels(t, g, "Z9 0 A1 0 B1 0 C1 0 A2 1 B2 1 C2 1 D2 1 E2 1 F2 1 G2 1 T!A1 0")
}

func TestLevelOfChains(t *testing.T) { // Promise 12.3: one more than the greatest that is used.
	g := opened(t, "A1", "=2", "B1", "=A1", "C1", "=B1", "D1", "=C1", "T!A1", "=S!D1", "U!A1", "=T!A1+S!A1")
	levels(t, g, "A1 1 B1 2 C1 3 D1 4 T!A1 5 U!A1 6")
	// By the greatest, wherever it stands among what is used.
	edited(t, g, "A2", "=A1+D1+Z9", "B2", "=D1+A1", "C2", "=SUM(A1:D1)", "D2", "=SUM(A1:Z1)", "E2", "=IF(FALSE,D1,A1)", "F2", "=CHOOSE(1,5,D1)", "G2", "=ROWS(A1:D1)", "A3", "=SUM(A1:B1,D1:E1)", "B3", "=SUM(C1:D1,A1:B1)")
	levels(t, g, "A2 5 B2 5 C2 5 D2 5 E2 5 F2 5 G2 1 A3 5 B3 5")
}

func TestLevelOfDiamonds(t *testing.T) { // Promise 12.3: several ways, of one length and of others.
	g := opened(t, "B1", "=A1", "C1", "=A1", "D1", "=B1+C1", "E1", "=D1", "F1", "=E1+A1", "G1", "=F1+B1+D1", "H1", "=SUM(B1:G1)")
	levels(t, g, "A1 0 B1 1 C1 1 D1 2 E1 3 F1 4 G1 5 H1 6")
}

func TestCyclic(t *testing.T) { // Promises 12.3, 12.7: on a circle, using one, used by one.
	g := opened(t, "A1", "1", "B1", "=A1", "A2", "=B2+B1", "B2", "=C2", "C2", "=A2+A1", "D2", "=C2", "E2", "=D2+A1", "F2", "=B1", "A3", "=A3", "B3", "=A3", "T!A1", "=SUM(S!A1:B3)")
	cyclics(t, g, "A2 B2 C2 D2 E2 A3 B3 T!A1")
	levels(t, g, "A1 0 B1 1 F2 2 Z9 0")
}

func TestCyclicAlone(t *testing.T) { // Promise 12.3: circles of one cell, by itself and in areas.
	for _, text := range []string{"=B2", "=$B$2+1", "=S!B2", "=SUM(B2:B2)", "=SUM(A1:B2)", "=SUM(B2:C3)", "=SUM(A1:C3)", "=SUM(A1:IV65536)", "=SUM(B1:B65536)", "=IF(FALSE,B2,1)", "=IFERROR(1,B2)", "=CHOOSE(2,B2,1)", "=INDEX(A1:C3,1)"} {
		g := opened(t, "B2", text, "D9", "=B2", "E9", "=C9")
		cyclics(t, g, "B2 D9")
		levels(t, g, "E9 1")
	}
	for _, text := range []string{"=B1", "=T!B2", "=SUM(A1:A2)", "=SUM(T!A1:IV65536)", "=SUM(A1:A65536,C1:IV65536,B1:B1,B3:B65536)", "=ROWS(A1:C3)", "=COLUMNS(B2:B2)"} {
		g := opened(t, "B2", text, "D9", "4", "U!E1", "=S!B2")
		levels(t, g, "B2 1 D9 0 U!E1 2")
	}
}

func TestCyclicTwo(t *testing.T) { // Promise 12.3: of two cells, across sheets, through areas.
	for _, l := range [][]string{{"=B1", "=A1"}, {"=SUM(B1:C9)", "=A1"}, {"=SUM(B1:Z99)", "=SUM(A1:A99)"}, {"=B1+B1", "=A1+Z9"}, {"=IF(TRUE,1,B1)", "=IF(TRUE,1,A1)"}} {
		g := opened(t, "A1", l[0], "B1", l[1], "T!A1", "=S!A1", "T!B1", "=S!C9")
		cyclics(t, g, "A1 B1 T!A1")
		levels(t, g, "T!B1 1 C9 0")
	}
	g := opened(t, "A1", "=T!A1", "T!A1", "=U!A1", "U!A1", "=S!A1", "U!B1", "=A1", "B1", "=T!B1")
	cyclics(t, g, "A1 T!A1 U!A1 U!B1")
	levels(t, g, "B1 1")
	g = opened(t, "A1", "=SUM(T!A1:Z9)", "T!B2", "=SUM(U!A1:Z9)", "U!C3", "=SUM(S!A1:A1)", "T!A1", "5")
	cyclics(t, g, "A1 T!B2 U!C3")
	levels(t, g, "T!A1 0")
}

func TestCyclicMeeting(t *testing.T) { // Promise 12.3: two circles that meet in a cell, and two of which one uses the other.
	g := opened(t, "A1", "=B1", "B1", "=A1+C1", "C1", "=D1", "D1", "=B1", "E1", "=D1", "F1", "=5")
	cyclics(t, g, "A1 B1 C1 D1 E1")
	levels(t, g, "F1 1")
	g = opened(t, "A1", "=B1", "B1", "=A1+C1", "C1", "=D1+F1", "D1", "=E1", "E1", "=D1", "F1", "=G1", "G1", "=Z1")
	cyclics(t, g, "A1 B1 C1 D1 E1")
	levels(t, g, "F1 2 G1 1")
	edited(t, g, "D1", "")
	cyclics(t, g, "A1 B1")
	levels(t, g, "E1 1 C1 3")
	edited(t, g, "B1", "=C1")
	levels(t, g, "A1 5 B1 4 C1 3")
}

func TestCircleOpened(t *testing.T) { // Promise 12.3: behind edits that close a circle and open it, by each of its cells, in one edit and in several.
	cells := []string{"A1", "T!B2", "C9", "U!A1"}
	next := map[string]string{"A1": "=T!B2", "T!B2": "=S!C9", "C9": "=U!A1", "U!A1": "=S!A1"}
	for _, opener := range cells {
		for _, text := range []string{"", "7", "=1", "=Z9"} {
			g := opened(t)
			for _, c := range cells {
				edited(t, g, c, next[c])
			}
			edited(t, g, "D1", "=C9", "D2", "=D1")
			for range 2 {
				cyclics(t, g, "A1 T!B2 C9 U!A1 D1 D2")
				circleIs(t, g, "D2", "A1 U!A1 C9 T!B2 A1")
				agreesOn(t, g, cells)
				edited(t, g, opener, text)
				if l := g.Circle(at("D2")); len(l) != 0 || g.Cyclic(at("D2")) || g.Cyclic(at(opener)) {
					t.Errorf("%s %q: %s", opener, text, names(l))
				}
				chain(t, g, opener, next)
				edited(t, g, opener, next[opener])
			}
		}
	}
}

// chain holds the levels of the cells that were on a circle till one of them was laid anew.
func chain(t *testing.T, g *Graph, opener string, next map[string]string) {
	t.Helper()
	user := map[string]string{"A1": "U!A1", "T!B2": "A1", "C9": "T!B2", "U!A1": "C9"}
	level := 0
	if g.Kind(at(opener)) == api.Formula {
		level = 1
	}
	for range len(next) {
		if g.Level(at(opener)) != level {
			t.Errorf("Level(%s): %d, want %d", opener, g.Level(at(opener)), level)
		}
		opener = user[opener]
		level++
	}
}

// agreesOn holds that each of the cells lies on a circle of all of them.
func agreesOn(t *testing.T, g *Graph, cells []string) {
	t.Helper()
	for _, name := range cells {
		way := g.Circle(at(name))
		if len(way) != len(cells)+1 || way[0] != at(name) || way[len(way)-1] != at(name) {
			t.Errorf("Circle(%s): %s", name, names(way))
		}
	}
}

func TestCircleInOneEdit(t *testing.T) { // Promise 12.3: one edit opens a circle and closes another one.
	g := opened(t, "A1", "=B1", "B1", "=A1", "C1", "=D1", "D1", "=2", "E1", "=SUM(A1:D1)")
	cyclics(t, g, "A1 B1 E1")
	levels(t, g, "C1 2 D1 1")
	edited(t, g, "B1", "=D1", "D1", "=C1")
	cyclics(t, g, "A1 B1 C1 D1 E1")
	circleIs(t, g, "E1", "C1 D1 C1")
	edited(t, g, "D1", "", "C1", "=A1")
	levels(t, g, "B1 1 A1 2 C1 3 D1 0 E1 4")
	// A circle whose cells are all emptied leaves nothing.
	edited(t, g, "A1", "=E1")
	cyclics(t, g, "A1 C1 E1")
	edited(t, g, "A1", "", "C1", "", "E1", "")
	levels(t, g, "A1 0 B1 1 C1 0 E1 0")
	reachIs(t, g, "A1 B1 C1 D1 E1", "B1")
}

func TestLevelBehindEdits(t *testing.T) { // Promise 12.3: by the contents as they are: laid, laid anew, emptied.
	g := opened(t, "B1", "=A1", "C1", "=B1", "D1", "=C1+A2", "E1", "=SUM(A1:D9)")
	levels(t, g, "A1 0 B1 1 C1 2 D1 3 E1 4")
	edited(t, g, "A1", "5") // a constant is as an empty cell
	levels(t, g, "A1 0 B1 1 C1 2 D1 3 E1 4")
	edited(t, g, "A1", "=5")
	levels(t, g, "A1 1 B1 2 C1 3 D1 4 E1 5")
	edited(t, g, "A1", "=6+7") // it uses what it has used
	levels(t, g, "A1 1 B1 2 C1 3 D1 4 E1 5")
	edited(t, g, "A1", "=A9+Z9")
	levels(t, g, "A1 1 B1 2 C1 3 D1 4 E1 5")
	edited(t, g, "A9", "=Z8")
	levels(t, g, "A9 1 A1 2 B1 3 C1 4 D1 5 E1 6")
	edited(t, g, "B1", "")
	levels(t, g, "A9 1 A1 2 B1 0 C1 1 D1 2 E1 3")
	edited(t, g, "A2", "=E2", "E2", "=E3", "E3", "=E4", "E4", "=E5")
	levels(t, g, "E4 1 E3 2 E2 3 A2 4 C1 1 D1 5 E1 6")
	edited(t, g, "E3", "x", "B1", "=A1")
	levels(t, g, "E4 1 E3 0 E2 1 A2 2 A1 2 B1 3 C1 4 D1 5 E1 6")
	usersAre(t, g, "A9", "A1 E1")
}
