package place

import (
	"math"
	"testing"

	"whittle/api"
)

// The chapter's table of examples, row by row.

func TestExamplesCol(t *testing.T) {
	for n, want := range map[int]string{0: "A", 25: "Z", 26: "AA", 255: "IV", 256: "", -1: ""} {
		if got := Col(n); got != want {
			t.Error("Col of", n, "is", got)
		}
	}
}

func TestExamplesName(t *testing.T) {
	for c, want := range map[api.Cell]string{{}: "A1", {Sheet: 3, Row: 9, Col: 27}: "AB10", {Row: 65535, Col: 255}: "IV65536", {Sheet: 16}: ""} {
		if got := Name(c); got != want {
			t.Error("Name of", c, "is", got)
		}
	}
}

func TestExamplesRead(t *testing.T) {
	if row, col, ok := Read("B3"); row != 2 || col != 1 || !ok {
		t.Error("Read of B3 is", row, col, ok)
	}
	for _, s := range []string{"b3", "B03", "IW1", "A65537", "A0", "1A", "A"} {
		if row, col, ok := Read(s); row != 0 || col != 0 || ok {
			t.Error("Read of", s, "is", row, col, ok)
		}
	}
}

func TestExamplesReadArea(t *testing.T) {
	for _, s := range []string{"A1:B2", "B2:A1", "B1:A2"} {
		if top, left, bottom, right, ok := ReadArea(s); area(top, left, bottom, right) != area(0, 0, 1, 1) || !ok {
			t.Error("ReadArea of", s, "is", top, left, bottom, right, ok)
		}
	}
	for _, s := range []string{"A1", "A1:B2:C3"} {
		if top, left, bottom, right, ok := ReadArea(s); area(top, left, bottom, right) != area(0, 0, 0, 0) || ok {
			t.Error("ReadArea of", s, "is", top, left, bottom, right, ok)
		}
	}
}

func TestExamplesNameArea(t *testing.T) {
	one, _ := One(named(t, "B2"))
	if got := NameArea(one); got != "B2:B2" {
		t.Error("NameArea of B2's One is", got)
	}
}

func TestExamplesHull(t *testing.T) {
	if got, ok := Hull(named(t, "B3"), named(t, "A5"), named(t, "C4")); got != block(t, "A3:C5") || !ok {
		t.Error("Hull(B3, A5, C4) is", got, ok)
	}
	if got, ok := Hull(); got != (api.Area{}) || ok {
		t.Error("Hull() is", got, ok)
	}
	if got, ok := Hull(named(t, "A1"), api.Cell{Sheet: 1}); got != (api.Area{}) || ok {
		t.Error("Hull(A1, {1, 0, 0}) is", got, ok)
	}
}

func TestExamplesMeet(t *testing.T) {
	if got, ok := Meet(block(t, "A1:C3"), block(t, "B2:D4")); got != block(t, "B2:C3") || !ok {
		t.Error("Meet(A1:C3, B2:D4) is", got, ok)
	}
	if got, ok := Meet(block(t, "A1:A2"), block(t, "B1:B2")); got != (api.Area{}) || ok {
		t.Error("Meet(A1:A2, B1:B2) is", got, ok)
	}
}

func TestExamplesSizeAtIndex(t *testing.T) {
	a := block(t, "A1:C3")
	if got := Size(a); got != 9 {
		t.Error("Size is", got)
	}
	if got, ok := At(a, 4); got != named(t, "B2") || !ok {
		t.Error("At 4 is", got, ok)
	}
	if got, ok := Index(a, named(t, "C2")); got != 5 || !ok {
		t.Error("Index of C2 is", got, ok)
	}
	if got, ok := At(a, 9); got != (api.Cell{}) || ok {
		t.Error("At 9 is", got, ok)
	}
}

func TestExamplesShift(t *testing.T) {
	if got, ok := Shift(named(t, "B2"), -1, 1); got != named(t, "C1") || !ok {
		t.Error("Shift(B2, -1, 1) is", got, ok)
	}
	if got, ok := Shift(named(t, "B2"), -2, 0); got != (api.Cell{}) || ok {
		t.Error("Shift(B2, -2, 0) is", got, ok)
	}
	if got, ok := Shift(named(t, "A1"), math.MaxInt, 0); got != (api.Cell{}) || ok {
		t.Error("Shift(A1, 2^63 - 1, 0) is", got, ok)
	}
}

func TestExamplesCursor(t *testing.T) {
	c := Over(block(t, "A1:B2"))
	if got, ok := c.Peek(); got != named(t, "A1") || !ok {
		t.Error("Peek is", got, ok)
	}
	if got, ok := c.Next(); got != named(t, "A1") || !ok {
		t.Error("Next is", got, ok)
	}
	if got := c.Skip(9); got != 3 || c.Passed() != 4 || c.Left() != 0 {
		t.Error("Skip(9) is", got, "passed", c.Passed(), "left", c.Left())
	}
	if got, ok := c.Next(); got != (api.Cell{}) || ok {
		t.Error("Next at the end is", got, ok)
	}
}
