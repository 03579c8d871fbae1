package graph

import (
	"testing"

	"whittle/api"
)

func TestUsersOfKinds(t *testing.T) { // Promise 12.2: of a constant, a formula, an empty cell.
	g := opened(t, "A1", "1", "B1", "=A1", "C1", "=B1+Z9", "D1", "=Z9", "E1", "=2")
	usersAre(t, g, "A1", "B1")
	usersAre(t, g, "B1", "C1")
	usersAre(t, g, "Z9", "C1 D1")
	usersAre(t, g, "C1", "")
	usersAre(t, g, "E1", "")
	usersAre(t, g, "Y9", "")
}

func TestUsersAreNotOnlyReached(t *testing.T) { // Promise 12.2: Users by themselves, not through others.
	g := opened(t, "B1", "=A1", "C1", "=B1", "D1", "=SUM(B1:C1)", "E1", "=D1+A1")
	usersAre(t, g, "A1", "B1 E1")
	usersAre(t, g, "B1", "C1 D1")
	usersAre(t, g, "C1", "D1")
	usersAre(t, g, "D1", "E1")
}

// edges holds that an area, here B2:.., is used at its corners and sides, and not just beside them.
func edges(t *testing.T, text, inside, outside string) {
	t.Helper()
	g := opened(t, "IV1", text)
	for _, c := range list(inside) {
		usersAre(t, g, names([]api.Cell{c}), "IV1")
	}
	for _, c := range list(outside) {
		usersAre(t, g, names([]api.Cell{c}), "")
	}
}

func TestUsersInAreas(t *testing.T) { // Promise 12.2: the first, the last, the corners, the midst of an area, and what lies just beside it; small areas and great ones.
	edges(t, "=SUM(B2:C3)", "B2 C2 B3 C3", "A1 B1 C1 D1 A2 D2 A3 D3 A4 B4 C4 D4 T!B2 T!C3")
	edges(t, "=SUM(C3:B2)", "B2 C2 B3 C3", "A1 B1 C1 D1 A2 D2 A3 D3 A4 B4 C4 D4 T!B2 T!C3")
	edges(t, "=SUM(B2:E5)", "B2 E2 B5 E5 C3 D4", "A2 B1 F2 E1 A5 B6 F5 E6 A1 F1 A6 F6 T!C3") // 16 cells
	edges(t, "=SUM(B2:R2)", "B2 C2 Q2 R2", "A2 S2 B1 R1 B3 R3 T!B2")                         // 17 cells
	edges(t, "=SUM(B2:B18)", "B2 B3 B17 B18", "B1 B19 A2 C2 A18 C18 T!B2")
	edges(t, "=SUM(B2:Z99)", "B2 Z2 B99 Z99 M50", "A2 B1 Z1 AA2 A99 B100 Z100 AA99 A1 AA1 A100 AA100 T!M50")
	edges(t, "=SUM(T!B2:Z99)", "T!B2 T!Z2 T!B99 T!Z99 T!M50", "T!A2 T!B1 T!AA99 T!Z100 B2 Z99 U!M50")
	edges(t, "=SUM(T!B2:C3)", "T!B2 T!C2 T!B3 T!C3", "T!A2 T!B1 T!D3 T!C4 B2 C3 U!B2")
	edges(t, "=SUM(A2:IV65536)", "A2 IV2 A65536 IV65536", "A1 B1 IV1 T!A2 U!IV65536")
	edges(t, "=SUM(A1:IU65536)", "A1 IU1 A65536 IU65536", "IV1 IV2 IV65536")
	edges(t, "=SUM(C1:C65536)", "C1 C2 C65536", "B1 D1 B65536 D65536")
	edges(t, "=SUM(A65536:IV65536)", "A65536 IV65536 C65536", "A65535 IV65535")
	edges(t, "=SUM(B2:B2)", "B2", "A2 C2 B1 B3")
	edges(t, "=B2", "B2", "A2 C2 B1 B3 T!B2")
}

func TestUsersOnOtherSheets(t *testing.T) { // Promise 12.2: in the order of cells: by sheet, row, column.
	g := opened(t, "B2", "=U!A1", "A9", "=U!A1", "IV1", "=U!A1", "T!C1", "=U!A1", "T!B1", "=SUM(U!A1:Z9)", "T!A2", "=U!A1", "U!A1", "=A1", "U!B1", "=U!A1", "AA2", "=U!A1")
	usersAre(t, g, "U!A1", "IV1 B2 AA2 A9 T!B1 T!C1 T!A2 U!A1 U!B1")
	usersAre(t, g, "A1", "")
	usersAre(t, g, "T!A1", "")
}

func TestUsersOfNoCell(t *testing.T) { // Promises 12.2, 12.3, 12.4, 12.5: what is no cell of the book is used by none.
	g := opened(t, "A1", "=SUM(B1:IV65536)", "B1", "=SUM(S!B1:IV65536,T!A1:IV65536,U!A1:IV65536)", "C1", "=A1", "T!A1", "=S!A1")
	wrongs := strange()
	for sheet := 3; sheet <= api.MaxSheets; sheet++ {
		wrongs = append(wrongs, api.Cell{Sheet: sheet}, api.Cell{Sheet: sheet, Row: 5, Col: 5})
	}
	for _, c := range wrongs {
		if l := g.Users(c); len(l) != 0 {
			t.Errorf("Users(%v): %v", c, l)
		}
		if l := g.Reach(c); len(l) != 0 {
			t.Errorf("Reach(%v): %v", c, l)
		}
		if l := g.Circle(c); len(l) != 0 || g.Cyclic(c) || g.Level(c) != 0 {
			t.Errorf("%v is cyclic, or of a level: %v", c, l)
		}
		for _, other := range append(list("A1 B1 C1 T!A1 U!A1"), c) {
			if one, two := g.Path(c, other), g.Path(other, c); len(one)+len(two) != 0 {
				t.Errorf("Path of %v and %v: %v, %v", c, other, one, two)
			}
		}
		if got := names(g.Reach(c, at("C1"), c, at("U!A1"))); got != "A1 B1 C1 T!A1" {
			t.Errorf("Reach of C1, U!A1 and %v: %s", c, got)
		}
	}
}

func TestUsersTwice(t *testing.T) { // Promise 12.2: a formula that uses a cell by several parts is one user.
	for _, text := range []string{"=A1+A1", "=$A$1+S!A1", "=SUM(A1,A1:B2)", "=SUM(A1:B2,A1:A9)", "=SUM(A1:Z9,A1:Z8,A1)", "=SUM(A1:IV65536)+A1", "=IF(A1,A1,A1)", "=SUMPRODUCT(A1:B2,A1:B2)", "=SUMIF(A1:A2,A1)"} {
		g := opened(t, "C3", text, "T!B1", "=S!A1")
		usersAre(t, g, "A1", "C3 T!B1")
		reachIs(t, g, "A1", "C3 T!B1")
		edited(t, g, "C3", "=A2")
		usersAre(t, g, "A1", "T!B1")
	}
}

func TestUsersItself(t *testing.T) { // Promise 12.2: a cell that uses itself.
	g := opened(t, "A1", "=A1", "B2", "=SUM(B1:B3)", "C9", "=SUM(C1:D99)")
	usersAre(t, g, "A1", "A1")
	usersAre(t, g, "B2", "B2")
	usersAre(t, g, "B1", "B2")
	usersAre(t, g, "C9", "C9")
	usersAre(t, g, "D9", "C9")
}

func TestUsersByAnyWay(t *testing.T) { // Promise 12.2: whatever is read in the end; ROWS and COLUMNS use none.
	for text, used := range map[string]string{
		"=IF(FALSE,B1,C1)": "B1 C1", "=IF(B1,C1)": "B1 C1", "=IF(TRUE,1,SUM(B1:C1))": "B1 C1",
		"=CHOOSE(1,B1,C1)": "B1 C1", "=CHOOSE(B1,1,2,C1)": "B1 C1", "=CHOOSE(9,B1,C1)": "B1 C1",
		"=IFERROR(1,B1)": "B1", "=IFERROR(B1,C1)": "B1 C1",
		"=INDEX(B1:C1,1)": "B1 C1", "=INDEX(B1:B1,C1)": "B1 C1", "=INDEX(B1:C1,99,99)": "B1 C1",
		"=ROWS(B1:C1)": "", "=COLUMNS(B1:C1)": "", "=ROWS(B1:C1)+C1": "C1", "=COLUMNS(B1:C1)*SUM(B1:B9)": "B1",
		"=MATCH(1,B1:C1)": "B1 C1", "=COUNTIF(B1:B1,C1)": "B1 C1", "=SUMIF(B1:B1,1,C1:C1)": "B1 C1", "=LOOKUP(1,B1:B1,C1:C1)": "B1 C1", "=SUMPRODUCT(B1:B1,C1:C1)": "B1 C1",
		"=AND(FALSE,B1:C1)": "B1 C1", "=1/0+B1": "B1", "=ROUND(B1,C1)": "B1 C1", "=-B1%": "B1", "=B1&C1": "B1 C1",
	} {
		g := opened(t, "A1", text, "A2", "=A1")
		for _, c := range list("B1 C1") {
			want := ""
			for _, x := range list(used) {
				if x == c {
					want = "A1"
				}
			}
			if got := names(g.Users(c)); got != want {
				t.Errorf("%s: Users(%s): %s", text, names([]api.Cell{c}), got)
			}
		}
	}
}

func TestReach(t *testing.T) { // Promise 12.2: of none, of one, of several that reach each other, of one that is named twice.
	g := opened(t, "B1", "=A1", "C1", "=B1", "D1", "=SUM(B1:C1)", "E1", "5", "F1", "=E1+D1", "T!A1", "=S!F1", "A2", "=B2", "B2", "=A2", "C2", "=B2", "D2", "=C2")
	reachIs(t, g, "", "")
	reachIs(t, g, "A1", "B1 C1 D1 F1 T!A1")
	reachIs(t, g, "B1", "C1 D1 F1 T!A1")
	reachIs(t, g, "A1 B1", "B1 C1 D1 F1 T!A1")
	reachIs(t, g, "B1 A1", "B1 C1 D1 F1 T!A1")
	reachIs(t, g, "A1 A1 A1", "B1 C1 D1 F1 T!A1")
	reachIs(t, g, "C1 E1", "D1 F1 T!A1")
	reachIs(t, g, "T!A1", "")
	reachIs(t, g, "T!A1 F1 T!A1", "T!A1")
	reachIs(t, g, "Z9 Y9", "")
	// Those that reach themselves are told, one that does not isn't.
	reachIs(t, g, "A2", "A2 B2 C2 D2")
	reachIs(t, g, "C2", "D2")
	reachIs(t, g, "C2 D2", "D2")
	reachIs(t, g, "D2 C2 B2 C2", "A2 B2 C2 D2")
	reachIs(t, g, "D1 B2", "F1 A2 B2 C2 D2 T!A1")
	if l := g.Reach([]api.Cell{}...); len(l) != 0 {
		t.Error("Reach of an empty list:", l)
	}
}

func TestReachItself(t *testing.T) { // Promise 12.2: one of cs itself, if it reaches one of them, by itself or another.
	g := opened(t, "A1", "=A1", "B1", "=C1", "C1", "=SUM(A9:Z99)", "B50", "=B1", "D1", "=B50")
	reachIs(t, g, "A1", "A1")
	reachIs(t, g, "B1", "B1 C1 D1 B50")
	reachIs(t, g, "D1", "")
	reachIs(t, g, "A1 D1", "A1")
	reachIs(t, g, "D1 C1", "B1 C1 D1 B50")
}

func TestReachOrder(t *testing.T) { // Promise 12.2: by sheet, row, column, however they are found.
	g := opened(t, "U!A1", "=T!C3", "T!C3", "=IV2", "T!IV2", "=AA2", "T!AA2", "=Z2", "T!Z2", "=A10", "T!A10", "=A9", "T!A9", "=S!B2", "B2", "=IV1", "IV1", "=A1", "C1", "=U!A1", "A65536", "=C1")
	reachIs(t, g, "A1", "C1 IV1 B2 A65536 T!Z2 T!AA2 T!IV2 T!C3 T!A9 T!A10 U!A1")
	reachIs(t, g, "T!A9 U!A1", "C1 A65536 T!Z2 T!AA2 T!IV2 T!C3 T!A10 U!A1")
}
