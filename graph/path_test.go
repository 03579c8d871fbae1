package graph

import "testing"

func TestPath(t *testing.T) { // Promise 12.4: two cells at least, each using the one ahead.
	g := opened(t, "A1", "1", "B1", "=A1", "C1", "=B1", "D1", "=C1", "E1", "=D1+Z9", "T!A1", "=S!E1")
	pathIs(t, g, "A1", "B1", "A1 B1")
	pathIs(t, g, "A1", "T!A1", "A1 B1 C1 D1 E1 T!A1")
	pathIs(t, g, "C1", "E1", "C1 D1 E1")
	pathIs(t, g, "Z9", "T!A1", "Z9 E1 T!A1") // from an empty cell
	pathIs(t, g, "Z9", "E1", "Z9 E1")
	// None to one that does not reach it, nor to itself, nor to what is no formula.
	pathIs(t, g, "T!A1", "A1", "")
	pathIs(t, g, "C1", "B1", "")
	pathIs(t, g, "B1", "B1", "")
	pathIs(t, g, "A1", "A1", "")
	pathIs(t, g, "Z9", "Z9", "")
	pathIs(t, g, "Z9", "D1", "")
	pathIs(t, g, "A1", "Z9", "")
	pathIs(t, g, "Y9", "T!A1", "")
	pathIs(t, g, "A1", "U!A1", "")
}

func TestPathIsShort(t *testing.T) { // Promise 12.4: as few cells as can be, wherever they stand in the order.
	g := opened(t, "B1", "=A1", "C1", "=B1", "D1", "=C1+Z9", "Z9", "=A1", "E1", "=D1", "T!A1", "=S!A1", "T!B1", "=T!A1", "F1", "=E1+T!B1")
	pathIs(t, g, "A1", "D1", "A1 Z9 D1")
	pathIs(t, g, "A1", "F1", "A1 T!A1 T!B1 F1")
	edited(t, g, "F1", "=E1+T!B1+A1")
	pathIs(t, g, "A1", "F1", "A1 F1")
	edited(t, g, "F1", "=SUM(A1:E1)")
	pathIs(t, g, "A1", "F1", "A1 F1")
	pathIs(t, g, "T!A1", "F1", "")
	pathIs(t, g, "Z9", "F1", "Z9 D1 F1")
}

func TestPathIsLeast(t *testing.T) { // Promise 12.4: of several of one length the least where they differ first.
	g := opened(t, "B1", "=A1", "C1", "=A1", "D1", "=A1", "E1", "=B1+C1+D1", "E2", "=D1", "E3", "=C1+B1", "A2", "=D1", "F1", "=E2+E3", "G1", "=A2+E3", "H1", "=F1+G1")
	pathIs(t, g, "A1", "E1", "A1 B1 E1")
	pathIs(t, g, "A1", "E2", "A1 D1 E2")
	pathIs(t, g, "A1", "E3", "A1 B1 E3")
	pathIs(t, g, "A1", "F1", "A1 B1 E3 F1")
	// D1 A2 G1 has a lesser cell than B1 E3 G1, but behind a greater one.
	pathIs(t, g, "A1", "G1", "A1 B1 E3 G1")
	pathIs(t, g, "D1", "H1", "D1 A2 G1 H1")
	pathIs(t, g, "A1", "H1", "A1 B1 E3 F1 H1")
	edited(t, g, "B1", "")
	pathIs(t, g, "A1", "H1", "A1 C1 E3 F1 H1")
	edited(t, g, "C1", "=Z9")
	pathIs(t, g, "A1", "H1", "A1 D1 A2 G1 H1")
}

func TestPathOrder(t *testing.T) { // Promise 12.4: least by sheet, row, column.
	g := opened(t, "U!A1", "=T!A9", "T!A1", "=T!A9", "T!B1", "=A9", "T!A2", "=A9", "A65536", "=T!A9", "IV3", "=T!A9", "T!A5", "=S!A65536+S!IV3+U!A1+T!A1+B1+A2", "T!A6", "=U!A1+T!A1+B1+A2", "T!A7", "=U!A1+T!B1+A2", "T!A8", "=U!A1+A2")
	pathIs(t, g, "T!A9", "T!A5", "T!A9 IV3 T!A5")
	pathIs(t, g, "T!A9", "T!A6", "T!A9 T!A1 T!A6")
	pathIs(t, g, "T!A9", "T!A7", "T!A9 T!B1 T!A7")
	pathIs(t, g, "T!A9", "T!A8", "T!A9 T!A2 T!A8")
}

func TestPathThroughEmpty(t *testing.T) { // Promise 12.4: no path goes through an empty cell, or a constant.
	g := opened(t, "B1", "=A1", "D1", "=C1", "E1", "=SUM(B1:D1)")
	pathIs(t, g, "A1", "D1", "")
	edited(t, g, "C1", "=B1")
	pathIs(t, g, "A1", "D1", "A1 B1 C1 D1")
	edited(t, g, "C1", "3")
	pathIs(t, g, "A1", "D1", "")
	pathIs(t, g, "C1", "D1", "C1 D1")
	edited(t, g, "C1", "")
	pathIs(t, g, "C1", "E1", "C1 E1")
	pathIs(t, g, "A1", "E1", "A1 B1 E1")
}

func TestPathToItself(t *testing.T) { // Promise 12.4: from a cell on a circle to itself, and round it.
	g := opened(t, "A1", "=A1", "B1", "=E1+C1", "C1", "=B1", "D1", "=C1+A1", "E1", "=D1", "F1", "=E1")
	pathIs(t, g, "A1", "A1", "A1 A1")
	pathIs(t, g, "A1", "D1", "A1 D1")
	pathIs(t, g, "B1", "B1", "B1 C1 B1")
	pathIs(t, g, "C1", "C1", "C1 B1 C1")
	pathIs(t, g, "D1", "D1", "D1 E1 B1 C1 D1")
	pathIs(t, g, "D1", "C1", "D1 E1 B1 C1")
	pathIs(t, g, "F1", "F1", "")
	pathIs(t, g, "A1", "F1", "A1 D1 E1 F1")
	// Of two circles of one length the least.
	g = opened(t, "A1", "=B1+C1+Z9", "B1", "=A1", "C1", "=A1", "T!A1", "=S!A1", "Z9", "=A1")
	pathIs(t, g, "A1", "A1", "A1 B1 A1")
	edited(t, g, "B1", "=C1")
	pathIs(t, g, "A1", "A1", "A1 C1 A1")
	edited(t, g, "C1", "=T!A1", "Z9", "")
	pathIs(t, g, "A1", "A1", "A1 T!A1 C1 A1")
}

func TestPathThroughAreas(t *testing.T) { // Promise 12.4: small areas and great ones.
	g := opened(t, "B1", "=SUM(A1:A9)", "C1", "=SUM(B1:B99)", "D1", "=SUM(C1:C9)", "T!A1", "=SUM(S!D1:IV65536)", "T!B1", "=SUM(A1:A2)")
	pathIs(t, g, "A9", "T!B1", "A9 B1 C1 D1 T!A1 T!B1")
	pathIs(t, g, "B99", "T!A1", "B99 C1 D1 T!A1")
	pathIs(t, g, "Z9", "T!B1", "Z9 T!A1 T!B1")
	pathIs(t, g, "A10", "T!B1", "")
}

func TestCircle(t *testing.T) { // Promise 12.5: of a cell on a circle, of one that only uses one, of one that does neither.
	g := opened(t, "A1", "=B1", "B1", "=C1", "C1", "=A1", "D1", "=C1", "E1", "=D1", "F1", "=Z9", "G1", "5", "H1", "=F1+E1")
	circleIs(t, g, "A1", "A1 C1 B1 A1")
	circleIs(t, g, "B1", "B1 A1 C1 B1")
	circleIs(t, g, "C1", "C1 B1 A1 C1")
	circleIs(t, g, "D1", "A1 C1 B1 A1")
	circleIs(t, g, "E1", "A1 C1 B1 A1")
	circleIs(t, g, "H1", "A1 C1 B1 A1")
	circleIs(t, g, "F1", "")
	circleIs(t, g, "G1", "")
	circleIs(t, g, "Z9", "")
}

func TestCircleFirst(t *testing.T) { // Promise 12.5: the first cell, in their order, that lies on a circle and is reached; not the nearest.
	g := opened(t, "D1", "=E1", "E1", "=D1", "C2", "=C2", "T!A1", "=B9", "T!B9", "=A1", "A9", "=T!A1", "B9", "=A9+C2", "C9", "=B9+E1", "A2", "=C9", "B2", "=C2")
	circleIs(t, g, "A9", "T!A1 T!B9 T!A1")
	circleIs(t, g, "B9", "C2 C2")
	circleIs(t, g, "C9", "D1 E1 D1")
	circleIs(t, g, "A2", "D1 E1 D1")
	circleIs(t, g, "B2", "C2 C2")
	// It is not told, if it is not reached, or does not lie on a circle: A1 ahead of all only uses one.
	edited(t, g, "A1", "=C9", "C1", "=A1")
	circleIs(t, g, "C1", "D1 E1 D1")
	edited(t, g, "E1", "")
	circleIs(t, g, "C1", "C2 C2")
	edited(t, g, "C2", "")
	circleIs(t, g, "C1", "T!A1 T!B9 T!A1")
	edited(t, g, "T!A1", "")
	circleIs(t, g, "C1", "")
}

func TestCircleFarBeyond(t *testing.T) { // Promise 12.5: the first may lie behind another circle, and what lies between two lies on none.
	g := opened(t, "A1", "=A1", "B1", "=A1", "C1", "=B1+D1", "D1", "=C1", "E1", "=D1", "A2", "=A2+B1")
	circleIs(t, g, "E1", "A1 A1")
	circleIs(t, g, "D1", "D1 C1 D1")
	circleIs(t, g, "B1", "A1 A1")
	circleIs(t, g, "A2", "A2 A2")
	edited(t, g, "A1", "2")
	circleIs(t, g, "E1", "C1 D1 C1")
	circleIs(t, g, "B1", "")
}

func TestCircleOnTwo(t *testing.T) { // Promise 12.5: of a cell on two circles the shorter one, of one length the least.
	g := opened(t, "A1", "=B1", "B1", "=C1+A1", "C1", "=D1", "D1", "=B1")
	circleIs(t, g, "B1", "B1 A1 B1")
	circleIs(t, g, "C1", "C1 B1 D1 C1")
	circleIs(t, g, "D1", "D1 C1 B1 D1")
	edited(t, g, "A1", "=Z9", "Z9", "=B1")
	circleIs(t, g, "B1", "B1 D1 C1 B1")
	circleIs(t, g, "A1", "A1 B1 Z9 A1")
	edited(t, g, "T!A1", "=S!B1+T!A1")
	circleIs(t, g, "T!A1", "T!A1 T!A1")
}

func TestCircleThroughAreas(t *testing.T) { // Promise 12.5: across sheets, through small areas and great ones.
	g := opened(t, "B2", "=SUM(T!A1:C3)", "T!C3", "=SUM(U!A1:Z9)", "U!Z9", "=SUM(S!A1:IV65536)", "U!A1", "=SUM(T!C3:C3)", "T!Z9", "=U!A1")
	circleIs(t, g, "B2", "B2 U!Z9 T!C3 B2")
	circleIs(t, g, "T!C3", "T!C3 U!A1 T!C3")
	circleIs(t, g, "T!Z9", "B2 U!Z9 T!C3 B2")
	edited(t, g, "U!Z9", "")
	circleIs(t, g, "B2", "T!C3 U!A1 T!C3")
}
