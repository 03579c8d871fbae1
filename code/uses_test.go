package code

import (
	"testing"

	"whittle/api"
)

func TestUses(t *testing.T) { // Promise 8.5: of each Op that reads, in the order of instructions, each area once.
	a, b, c := area(t, "A1:A2"), area(t, "B1:B2"), area(t, "C3:C3")
	c3 := api.Cell{Row: 2, Col: 2}
	using(t, []api.Ins{push(1), store()})
	using(t, []api.Ins{load(c3), store()}, c)
	using(t, []api.Ins{load(c3), load(c3), bin(), store()}, c)
	using(t, []api.Ins{load(c3), pick(c, 1), store()}, c)
	using(t, []api.Ins{push(1), pick(a, 1), store()}, a)
	using(t, []api.Ins{push(1), push(1), pick(b, 2), store()}, b)
	using(t, []api.Ins{open(api.FnSum), scan(b), scan(a), scan(b), shut(), store()}, b, a)
	using(t, []api.Ins{open(api.FnLookup), scan2(b, a), scan2(a, b), scan2(a, a), shut(), store()}, b, a)
	using(t, []api.Ins{open(api.FnLookup), scan2(a, a), scan2(a, b), shut(), store()}, a, b)
	// By all ways, whichever is gone.
	using(t, []api.Ins{push(1), branch(4, 5), load(c3), jump(5), load(api.Cell{}), store()}, c, area(t, "A1:A1"))
}

func TestUsesTellsAreasApart(t *testing.T) { // Promise 8.5: areas are the same just if all of each is; none is told for another that has it.
	base := api.Area{Sheet: 1, Top: 2, Left: 3, Bottom: 4, Right: 5}
	list := []api.Area{base, {Sheet: 2, Top: 2, Left: 3, Bottom: 4, Right: 5}, {Sheet: 1, Top: 1, Left: 3, Bottom: 4, Right: 5}, {Sheet: 1, Top: 2, Left: 2, Bottom: 4, Right: 5}, {Sheet: 1, Top: 2, Left: 3, Bottom: 5, Right: 5}, {Sheet: 1, Top: 2, Left: 3, Bottom: 4, Right: 6}, {Sheet: 1, Top: 3, Left: 4, Bottom: 3, Right: 4}}
	l := []api.Ins{open(api.FnSum)}
	for range 2 {
		for _, a := range list {
			l = append(l, scan(a))
		}
	}
	using(t, append(l, shut(), store()), list...)
}

func TestUsesOfFormulas(t *testing.T) { // Promises 8.5 and 8.8: what stands in the formula, in the code's order.
	other := func(name string) api.Area {
		a := area(t, name)
		a.Sheet = 1
		return a
	}
	using(t, flat(t, "A1+T!B2+S!A1+$A$1"), area(t, "A1:A1"), other("B2:B2"))
	using(t, flat(t, "SUM(A1:A1,A1)"), area(t, "A1:A1"))
	using(t, flat(t, "SUM(B2:A1,A1:B2,A2:B1)"), area(t, "A1:B2"))
	using(t, flat(t, "COUNTIF(A1:A2,B1)"), area(t, "B1:B1"), area(t, "A1:A2"))
	using(t, flat(t, "INDEX(A1:A2,B1,C1)"), area(t, "B1:B1"), area(t, "C1:C1"), area(t, "A1:A2"))
	using(t, flat(t, "SUMIF(A1:A2,C1,T!A1:A2)"), area(t, "C1:C1"), area(t, "A1:A2"), other("A1:A2"))
	using(t, flat(t, "SUMIF(A1:A2,1)"), area(t, "A1:A2"))
	using(t, flat(t, "ROWS(A1:B2)+COLUMNS(C1:D2)"))
	using(t, flat(t, "ROWS(A1:B2)+SUM(A1:B2)"), area(t, "A1:B2"))
	using(t, flat(t, "IF(FALSE,A1,IFERROR(B1,CHOOSE(1,C1,D1)))"), area(t, "A1:A1"), area(t, "B1:B1"), area(t, "C1:C1"), area(t, "D1:D1"))
	using(t, flat(t, "1+2"))
}

func TestBounds(t *testing.T) { // Promise 8.6: each instruction 1, but a scan for the most.
	bounded(t, []api.Ins{push(1), store()}, 2, 2)
	bounded(t, flat(t, "SUM(A1:A1)"), 4, 4)
	bounded(t, flat(t, "SUM(A1:C4)"), 4, 15)
	bounded(t, flat(t, "SUMPRODUCT(A1:A1,B1:B1)"), 4, 5)
	bounded(t, flat(t, "SUMPRODUCT(A1:C4,D1:F4)"), 4, 27)
	bounded(t, flat(t, "INDEX(A1:IV65536,1)"), 3, 3) // a pick reads one cell
	bounded(t, flat(t, "ROWS(A1:IV65536)"), 2, 2)
	bounded(t, flat(t, "SUM(A1:IV65536)"), 4, 3+1<<24)
	bounded(t, flat(t, "LOOKUP(1,A1:IV65536,T!A1:IV65536)"), 6, 5+1<<25)
}

func TestBoundsByUnlikeWays(t *testing.T) { // Promise 8.6: the least and the most over all ways, and branches within branches.
	bounded(t, flat(t, "IF(1,2,3)"), 3, 5)     // fault 3, no 4, yes 5
	bounded(t, flat(t, "IF(1,2,3+4+5)"), 3, 8) // the most by no
	bounded(t, flat(t, "IF(1,2+3+4,5)"), 3, 9) // the most by yes
	bounded(t, flat(t, "IFERROR(1,2+3)"), 3, 6)
	bounded(t, flat(t, "CHOOSE(1,2,3+4,5+6+7)"), 3, 8)          // the last one has no jump
	bounded(t, flat(t, "CHOOSE(1,2+3+4,5,6)"), 3, 9)            // the first one
	bounded(t, flat(t, "IF(1,IF(2,3,4),IF(5,6,7+8+9))"), 3, 10) // push, branch, push, branch, 5, store
	bounded(t, flat(t, "IF(IF(1,2,3),4,5)"), 4, 8)              // ways behind ways
	bounded(t, flat(t, "IFERROR(IF(1,SUM(A1:A9),2),MAX(A1:B9))+3"), 6, 1+1+1+9+1+1+1+1+18+1+1+1+1)
	// The least and the most may be by other ways, and where one lies is nothing to the other.
	l := []api.Ins{push(1), branch(6, 9), open(api.FnSum), scan(api.Area{Bottom: 99}), shut(), jump(9), push(2), un(), un(), store()}
	bounded(t, l, 3, 1+1+1+100+1+1+1)
	// No way is longer for its places standing further behind.
	bounded(t, []api.Ins{push(1), choose(7, 6, 4, 2), push(2), jump(7), push(3), jump(7), push(4), store()}, 3, 5)
	bounded(t, []api.Ins{jump(1), push(1), jump(3), jump(4), store()}, 5, 5)
}
