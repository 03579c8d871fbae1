package graph

import "testing"

// example is the sheet of the chapter's examples.
func example(t *testing.T) *Graph {
	t.Helper()
	return opened(t, "A1", "1", "B1", "=A1", "C1", "=SUM(A1:B1)", "D1", "=E1", "E1", "=D1", "F1", "=E1+C1")
}

func TestExampleUsers(t *testing.T) {
	g := example(t)
	usersAre(t, g, "A1", "B1 C1")
	usersAre(t, g, "C1", "F1")
	usersAre(t, g, "E1", "D1 F1")
	usersAre(t, g, "Z9", "")
}

func TestExampleReach(t *testing.T) {
	g := example(t)
	reachIs(t, g, "A1", "B1 C1 F1")
	reachIs(t, g, "D1", "D1 E1 F1")
	reachIs(t, g, "A1 D1", "B1 C1 D1 E1 F1")
}

func TestExampleCyclic(t *testing.T) {
	g := example(t)
	if !g.Cyclic(at("D1")) || !g.Cyclic(at("F1")) || g.Cyclic(at("C1")) {
		t.Error(g.Cyclic(at("D1")), g.Cyclic(at("F1")), g.Cyclic(at("C1")))
	}
}

func TestExampleLevel(t *testing.T) {
	g := example(t)
	levels(t, g, "A1 0 B1 1 C1 2")
	if n := g.Level(at("F1")); n != 0 {
		t.Error("Level(F1):", n)
	}
}

func TestExamplePath(t *testing.T) {
	g := example(t)
	pathIs(t, g, "A1", "F1", "A1 C1 F1")
	pathIs(t, g, "A1", "A1", "")
	pathIs(t, g, "D1", "D1", "D1 E1 D1")
}

func TestExampleCircle(t *testing.T) {
	g := example(t)
	circleIs(t, g, "F1", "D1 E1 D1")
	circleIs(t, g, "C1", "")
}
