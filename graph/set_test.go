package graph

import (
	"testing"

	"whittle/api"
)

func TestSet(t *testing.T) { // Each once: add says whether it is new.
	s := set[api.Area]{}
	a, b := api.Area{Bottom: 1}, api.Area{Right: 1}
	if !s.add(a) || !s.add(b) || s.add(a) || s.add(b) || len(s) != 2 {
		t.Error(s)
	}
}

func TestSets(t *testing.T) { // A set that has lost its last one is gone: what was let go of is not kept.
	ss := sets[string, int]{}
	ss.add(1, "a", "b", "a")
	ss.add(2, "a")
	ss.drop(1, "a", "b", "a", "c")
	if len(ss) != 1 || len(ss["a"]) != 1 || ss["a"].add(2) {
		t.Error(ss)
	}
	ss.drop(2, "a")
	ss.drop(2, "a")
	if len(ss) != 0 {
		t.Error(ss)
	}
}

func TestNothingIsKept(t *testing.T) { // A graph that was emptied knows of no formula and no user.
	g := opened(t, "A1", "=B1", "B1", "=SUM(A1:Z99)", "C1", "=SUM(A1:B2)+A1", "T!A1", "=S!A1+SUM(S!A1:IV65536,S!A1:A3)")
	edited(t, g, "A1", "5", "C1", "=B2")
	edited(t, g, "A1", "", "B1", "", "C1", "", "T!A1", "x")
	if len(g.formulas) != 0 || len(g.users.near) != 0 || len(g.users.wide) != 0 {
		t.Error(g.formulas, g.users)
	}
}
