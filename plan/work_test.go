package plan

import (
	"testing"

	"whittle/api"
)

func TestWorkOfNothing(t *testing.T) { // Promises 23.2, 23.3: nothing is stale: no contents, constants, circles; formulas that were worked out.
	v := opened(t)
	costs(t, v, 0, 0)
	edited(t, v, "A1", "5", "A2", "x", "B1", "=B1", "C1", "=D1", "D1", "=C1", "E1", "=D1+A1")
	costs(t, v, 0, 0)
	edited(t, v, "A3", "=A1", "T!A3", "=SUM(S!A1:A9)")
	costs(t, v, 14, 14)
	settle(t, v)
	costs(t, v, 0, 0)
}

func TestWork(t *testing.T) { // Promise 23.2: the costs of all stale cells, whether they are ready or not, of all sheets; of those that were worked out nothing.
	v := opened(t, "A1", "2", "B1", "=A1", "C1", "=B1+1", "T!A1", "=SUM(S!A1:A9)", "U!IV65536", "=T!A1")
	costs(t, v, 2+4+12+2, 14)
	ticked(t, v, 1, 99, 12)
	costs(t, v, 2+4+2, 6)
	edited(t, v, "A2", "x", "D1", "=1", "D2", "=D2")
	costs(t, v, 2+4+12+2+2, 14)
	edited(t, v, "B1", "", "D1", "1")
	costs(t, v, 4+12+2, 14)
	edited(t, v, "A1", "=C1", "C1", "=A1")
	costs(t, v, 0, 0) // T!A1 and what uses it are cyclic; and then not
	edited(t, v, "C1", "")
	costs(t, v, 2+12+2, 16)
}

func TestWorkLessParked(t *testing.T) { // Promise 23.2: less what the frames of all tasks have done, each step of it; all of it once more, if they are aborted.
	v := opened(t, "A1", "2", "B1", "=SUM(A1:A9)", "T!A1", "=SUM(S!A1:A5)", "T!B1", "=A1", "U!A1", "=1+2+3")
	costs(t, v, 12+8+2+6, 12)
	for i := range 11 {
		ticked(t, v, 0, 1, 1)
		costs(t, v, 28-i-1, max(12-i-1, 10))
	}
	ticked(t, v, 1, 3, 3)
	costs(t, v, 1+5+2+6, 7)
	ticked(t, v, 2, 5, 5)
	costs(t, v, 1+5+2+1, 7)
	edited(t, v, "Z9", "1")
	costs(t, v, 1+5+2+1, 7)
	edited(t, v, "A7", "1")
	costs(t, v, 12+5+2+1, 12)
	ticked(t, v, 0, 12, 12)
	costs(t, v, 5+2+1, 7)
	edited(t, v, "A1", "3")
	costs(t, v, 12+8+2+1, 12)
}

func TestWorkByModel(t *testing.T) { // Promises 23.2, 13.1: costs by the model's values, not by those that stale cells still tell.
	v := opened(t, "A1", "=0", "B1", "=IF(A1,SUM(C1:C9),0)", "D1", "=IF(B1=9,1,SUM(C1:C99))")
	costs(t, v, 2+4+106, 112)
	settle(t, v)
	edited(t, v, "A1", "=1")
	costs(t, v, 2+15+106, 123)
	edited(t, v, "C5", "9")
	costs(t, v, 2+15+7, 24)
}

func TestWorkOfHuge(t *testing.T) { // Promises 23.2, 23.3, 13.6: areas may be huge.
	v := opened(t, "A1", "=COUNTA(T!A1:IV65536)", "B1", "=SUM(T!A1:IV65536,T!A1:IV65536,A1)", "T!A1", "=1", "C1", "=B1")
	const sheet = api.MaxRows * api.MaxCols
	a1, b1 := sheet+3, 2*sheet+2+2+1
	costs(t, v, 2+a1+b1+2, 2+a1+b1+2)
	ticked(t, v, 1, 9, 2)
	ticked(t, v, 0, 1000, 1000)
	costs(t, v, a1+b1+2-1000, a1+b1+2-1000)
}

func TestLongestOfRows(t *testing.T) { // Promise 23.3: of all rows the one with the most steps, be it of fewer cells; not all that a cell waits for, but one row.
	v := opened(t, "A1", "=1", "B1", "=A1", "C1", "=B1", "D1", "=C1", "T!A1", "=SUM(A2:A9)+1")
	costs(t, v, 2+2+2+2+13, 13)
	edited(t, v, "E1", "=D1+T!A1") // both rows go on
	costs(t, v, 21+4, 17)
	edited(t, v, "B1", "=SUM(A1:A4)")
	costs(t, v, 2+7+2+2+13+4, 17)
	edited(t, v, "B1", "=SUM(A1:A4,5)")
	costs(t, v, 2+9+2+2+13+4, 19)
	edited(t, v, "B9", "=D1")
	costs(t, v, 2+9+2+2+2+13+4, 19)
	edited(t, v, "T!A2", "=S!D1")
	costs(t, v, 2+9+2+2+2+2+13+4, 2+9+2+2+2+13+4)
	edited(t, v, "U!A1", "=S!A1&S!E1&T!A1&S!D1")
	costs(t, v, 34+2+8, 34+8)
}

func TestLongestLessParked(t *testing.T) { // Promise 23.3: less what frames have done of the row's cells; another one may be the longest then.
	v := opened(t, "A1", "=SUM(T!C1:C9)", "B1", "=A1", "T!A1", "=SUM(C1:C9)", "T!B1", "=A1+S!B1")
	costs(t, v, 12+2+12+4, 18)
	ticked(t, v, 0, 1, 1)
	costs(t, v, 29, 17)
	ticked(t, v, 0, 1, 1)
	costs(t, v, 28, 16)
	ticked(t, v, 0, 2, 2)
	costs(t, v, 26, 16)
	ticked(t, v, 1, 11, 11)
	costs(t, v, 15, 14)
	ticked(t, v, 0, 7, 7)
	costs(t, v, 8, 7)
	ticked(t, v, 0, 1, 1)
	costs(t, v, 7, 6)
	ticked(t, v, 0, 1, 1)
	costs(t, v, 6, 5)
}

func TestLongestOfFresh(t *testing.T) { // Promise 23.3: fresh cells are in no row; formulas that use none of each other are rows of one.
	v := opened(t, "A1", "=1", "B1", "=A1", "C1", "=B1+A1", "D1", "=1+2+3")
	ticked(t, v, 0, 2, 2)
	costs(t, v, 2+4+6, 6)
	ticked(t, v, 0, 6, 6)
	costs(t, v, 6, 6)
	ticked(t, v, 0, 2, 2)
	costs(t, v, 4, 4)
	edited(t, v, "E1", "=IF(TRUE,1,D1)", "F1", "=SUM(B9:B12)")
	costs(t, v, 4+5+7, 7)
}

func TestLongestByUses(t *testing.T) { // Promise 23.3: a cell uses what its code may read, by areas and by pairs too, whatever it reads in the end.
	for _, form := range []string{"=IF(FALSE,A1,7)", "=SUM(D1:D2,A1:C9)", "=INDEX(A1:B2,2,2)", "=SUMIF(D1:D9,1,A1:A9)", "=ROWS(D1:D2)+A1"} {
		v := opened(t, "A1", "=1+2+3", "E5", form)
		if all := Work(v); all < 7 || Longest(v) != all {
			t.Error(form, all, Longest(v))
		}
	}
	v := opened(t, "A1", "=1+2+3", "E5", "=ROWS(A1:A9)")
	costs(t, v, 8, 6)
	if got := Longest(opened(t, "A1", "=1", "A9", "=7+7", "B9", "=SUM(A1:A9)", "C1", "=B9", "C2", "=B9+A9", "D1", "=SUM(C1:C9,A1)")); got != 4+12+4+14 {
		t.Error(got)
	}
}
