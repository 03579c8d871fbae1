package block

import (
	"slices"
	"testing"

	"whittle/api"
	"whittle/undo"
)

// writeOver writes over a list, its spare room too.
func writeOver(l []string) {
	l = l[:cap(l)]
	for i := range l {
		l[i] = "over"
	}
}

func TestRowsHandedIn(t *testing.T) { // R3: rows are neither changed, spare room included, nor kept; a list without rows is one whatever its room.
	u := opened(t, "A1", "old", "D9", "=B2")
	for _, rows := range [][]string{{"1,2", `"a,b",=A1`}, {`x,"y`, "1"}, {"1", "=1+"}, {"z"}} {
		whole := append(slices.Clone(rows), "ROOM,1", `"`)
		was := slices.Clone(whole)
		r := Lay(u, at("B2"), whole[:len(rows)]...)
		if !slices.Equal(whole, was) {
			t.Fatalf("%q, handed in as %q", whole, was)
		}
		behind, all := contents(u), tells(u)
		writeOver(whole)
		if tells(u) != all {
			t.Fatal("what was handed in is kept")
		}
		if r.Code != api.OK {
			continue
		}
		if u.Undo() != api.OK || u.Redo() != api.OK || contents(u) != behind {
			t.Fatalf("done again: %s, want %s", contents(u), behind)
		}
	}
	for _, rows := range [][]string{nil, {}, make([]string, 0, 3)} {
		noLay(t, u, at("A1"), api.Refusal{Code: api.ErrNone}, rows...)
	}
}

func TestRowsToldAreNewMemory(t *testing.T) { // R3: rows that are told may be written over and grown: neither the undo nor rows told ahead or later are turned.
	u := opened(t, "A1", "1", "B1", "=A1", "A2", `"x"`, "C3", "a,b")
	for name, tell := range map[string]func(*undo.Undo, api.Area) ([]string, api.Errno){"Text": Text, "Table": Table} {
		all := tells(u)
		one, _ := tell(u, area("A1:C3"))
		other, _ := tell(u, area("A1:C3"))
		was := slices.Clone(other)
		writeOver(one)
		_ = append(one[:1], "grown")
		if !slices.Equal(other, was) || tells(u) != all {
			t.Errorf("%s: %q, want %q", name, other, was)
		}
		if again, _ := tell(u, area("A1:C3")); !slices.Equal(again, was) {
			t.Errorf("%s: %q, want %q", name, again, was)
		}
	}
}

func TestTwoBooks(t *testing.T) { // R4: two undos have nothing in common, and what is read in one turns nothing in another.
	x := newTwins(t, "A1", "1", "B1", "=A1")
	was := tells(x.u)
	copied(t, x.beside, "A1:B1", "A2")
	filled(t, x.beside, "B1", "C1:C9")
	laid(t, x.beside, "T!A1", "1,2")
	cleared(t, x.beside, "A1:B1")
	if tells(x.u) != was {
		t.Error("one undo is turned by the other")
	}
}
