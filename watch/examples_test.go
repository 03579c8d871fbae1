package watch

import (
	"testing"

	"whittle/api"
)

func TestExamples(t *testing.T) { // Row by row: each goes on where the one ahead has come to.
	x, why := New("S")
	if x == nil || why != api.OK {
		t.Fatal(why)
	}
	edited(t, x, "A1", "2", "B1", "=A1", "C1", "=B1")
	momentIs(t, x, 1)
	sinceIs(t, x, 0, "A1 B1 C1")
	sinceIs(t, x, 1, "")
	if l, why := x.Since(2); len(l) != 0 || why != api.ErrMoment {
		t.Error(l, why)
	}

	ticked(t, x, 0, 3, 3)
	momentIs(t, x, 2)
	sinceIs(t, x, 1, "B1")
	parkedIs(t, x, 0, "C1", 1)

	ticked(t, x, 0, 9, 1)
	edited(t, x, "D1", "1")
	momentIs(t, x, 4)
	sinceIs(t, x, 2, "C1 D1")
	sinceIs(t, x, 3, "D1")

	edited(t, x, "A1", "2")
	sinceIs(t, x, 4, "A1 B1 C1")

	settle(t, x)
	touches(t, x, "A1 B1 C1", "A1", "=B1")
	reads(t, x, "B1", fresh(circle(), 4))
	reads(t, x, "C1", fresh(circle(), 4))
}

func TestExamplesOfTheWhole(t *testing.T) { // DOC.md's ten, and what each of them touches.
	x := opened(t)
	touches(t, x, "A1 B1", "A1", "2", "B1", "=A1+3") // 1
	ticked(t, x, 0, 1, 1)
	momentIs(t, x, 1)
	ticked(t, x, 0, 99, 3)
	momentIs(t, x, 2)
	sinceIs(t, x, 1, "B1")
	touches(t, x, "A1 B1", "A1", "4") // 2
	settle(t, x)
	touches(t, x, "C1", "C1", "=SUM(A1:A9)") // 3
	ticked(t, x, 0, 5, 5)
	touches(t, x, "D1", "D1", "7")
	parkedIs(t, x, 0, "C1", 5)
	touches(t, x, "A9", "A9", "1") // C1 was stale ahead, and is
	abortedIs(t, x, "C1")
	touches(t, x, "A1 B1 C1", "A1", "=B1") // 4: C1, stale, reaches the circle
	touches(t, x, "A1 B1 C1 T!A1", "A1", "=T!A1", "T!A1", "5")
	at := x.Moment()
	ticked(t, x, 1, 9, 0) // 5
	ticked(t, x, 0, 2, 2)
	momentIs(t, x, at+1)
	sinceIs(t, x, at, "A1")
	for _, ask := range [][2]int{{3, 1}, {0, -1}, {0, 0}} { // 6
		x.Tick(ask[0], ask[1])
		momentIs(t, x, at+1)
	}
	settle(t, x)
	touches(t, x, "A1 B1 C1 E1", "A1", "0", "E1", "=IF(A1>0, SUM(B2:B9), 0)") // 7
	settle(t, x)
	touches(t, x, "E1 B5", "B5", "1")
	reads(t, x, "E1", old(n(0), x.Version()-1))
	touches(t, x, "F1", "F1", "=MATCH(3, A1:A9)") // 8
	touches(t, x, "G1 C3", "G1", "=1", "C3", "=1")
	seen(t, x, 0, "C1:C9") // 9
	at = x.Moment()
	ticked(t, x, 0, 2, 2)
	sinceIs(t, x, at, "C3")
	if r := x.Edit(puts("A1", "1", "A1", "2")...); r != (api.Refusal{Code: api.ErrTwice, Change: 1}) { // 10
		t.Error(r)
	}
	momentIs(t, x, at+1)
}
