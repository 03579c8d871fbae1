package machine

import (
	"testing"

	"whittle/api"
)

// eachOp is a code with each Op in it; with the values that it is given it comes to all of them, one behind the other, but for what branches pass over.
func eachOp() []api.Ins {
	return []api.Ins{
		load(at("A1")), un(api.OpNeg), push(n(1)), bin(api.OpAdd), call(api.FnAbs, 1), // 0 to 4
		choose(9, 6, 8), push(n(1)), jump(9), push(truth(true)), // 5 to 8
		branch(12, 13), push(n(7)), jump(13), push(n(8)), // 9 to 12
		guard(15), push(n(3)), // 13, 14
		open(api.FnSum), feed(), scan(area("B1:B2")), shut(), // 15 to 18
		pickOf(area("C1:C9"), 1), open(api.FnLookup), feed(), scan2(area("D1:D2"), area("E1:E2")), shut(), store(), // 19 to 24
	}
}

func TestWantsAtEachInstruction(t *testing.T) { // Promise 9.2: InsLoad, InsScan, InsScan2, InsPick alone; 9.1: one at the first one.
	f := begin(t, eachOp()...)
	for _, x := range []struct {
		at    int
		wants string
		v     api.Value
	}{
		{0, "A1", n(-1)}, {1, "", blank}, {2, "", blank}, {3, "", blank}, {4, "", blank}, {5, "", blank}, {8, "", blank}, {9, "", blank}, {10, "", blank}, {11, "", blank},
		{13, "", blank}, {15, "", blank}, {16, "", blank}, {17, "B1", blank}, {17, "B2", n(-2)}, {18, "", blank}, {19, "C5", txt("x")}, {20, "", blank}, {21, "", blank},
		{22, "D1", txt("y")}, {22, "D2", txt("x")}, {22, "E2", n(9)}, {23, "", blank}, {24, "", blank},
	} {
		if got := f.State().At; got != x.at {
			t.Fatalf("it stands at %d, not at %d", got, x.at)
		}
		if x.wants == "" {
			wantsNone(t, f)
		} else {
			wants(t, f, x.wants)
			wants(t, f, x.wants) // asking turns nothing
		}
		step(t, f, x.v)
	}
	wantsNone(t, f) // it is done
	if r, _ := f.Result(); r != n(9) {
		t.Fatal("it comes to", r)
	}
}

func TestWantsNoneOfAFullFold(t *testing.T) { // Promise 9.2: unless the top fold is Full.
	l := []api.Ins{open(api.FnFirst), push(n(1)), feed(), scan(area("A1:A3")), scan(area("B1:B3")), shut(), store()}
	comes(t, l, nil, n(1), 7)
	l = []api.Ins{open(api.FnLookup), push(bad(api.FaultRef)), feed(), scan2(area("A1:A3"), area("B1:B3")), shut(), store()}
	comes(t, l, nil, bad(api.FaultRef), 6)
	l = []api.Ins{open(api.FnSumProduct), scan2(area("A1:A3"), area("B1:B3")), scan2(area("C1:C3"), area("D1:D3")), shut(), store()}
	comes(t, l, cells{"A1": bad(api.FaultNA)}, bad(api.FaultNA), 5, "A1")
	// The fold below is full, the top one not.
	l = []api.Ins{open(api.FnFirst), push(n(1)), feed(), open(api.FnSum), scan(area("A1:A2")), shut(), feed(), scan(area("A3:A4")), shut(), store()}
	comes(t, l, cells{"A2": n(8)}, n(1), 11, "A1", "A2")
}

func TestWantsOfPairs(t *testing.T) { // Promise 9.2: if the top one wants, the cell number Scans - 1 of Pair; else number Scans of Area.
	l := []api.Ins{open(api.FnSumProduct), scan2(area("B2:C3"), area("E5:F6")), shut(), store()}
	f := begin(t, l...)
	steps(t, f, 1)
	for _, x := range []struct {
		wants string
		v     api.Value
	}{{"B2", txt("x")}, {"C2", n(2)}, {"F5", n(3)}, {"B3", n(4)}, {"E6", blank}, {"C3", n(5)}, {"F6", n(6)}} {
		wants(t, f, x.wants)
		step(t, f, x.v)
	}
	steps(t, f, 2)
	if r, _ := f.Result(); r != n(36) {
		t.Fatal(r)
	}
}

func TestWantsOfPicksByOne(t *testing.T) { // Promise 9.2: with B 1 the cell number k - 1, of a Number that is whole.
	a := area("B2:C4")
	for _, x := range []struct {
		k     api.Value
		wants string
	}{
		{n(1), "B2"}, {n(2), "C2"}, {n(3), "B3"}, {n(6), "C4"}, {n(0), ""}, {n(7), ""}, {n(-1), ""}, {n(api.MaxNum), ""}, {n(-api.MaxNum), ""},
		{part(1, 2), ""}, {part(3, 2), ""}, {part(1, api.MaxDen), ""}, {txt("1"), ""}, {txt(""), ""}, {truth(true), ""}, {blank, ""}, {bad(api.FaultNum), ""},
	} {
		f := begin(t, push(x.k), pickOf(a, 1), store())
		steps(t, f, 1)
		picks(t, f, x.wants, x.k)
	}
}

// picks holds what a frame at an InsPick wants, and what it comes to, by these values.
func picks(t *testing.T, f *Frame, cell string, by ...api.Value) {
	t.Helper()
	if cell != "" {
		wants(t, f, cell)
		step(t, f, txt("picked"))
		stacked(t, f, txt("picked"))
		return
	}
	want := bad(api.FaultRef)
	for i := len(by) - 1; i >= 0; i-- {
		if by[i].Kind == api.Fault {
			want = by[i]
		}
	}
	wantsNone(t, f)
	step(t, f, txt("picked"))
	stacked(t, f, want)
}

func TestWantsOfPicksByTwo(t *testing.T) { // Promise 9.2: with B 2 first the row, on top the column, within the area.
	a := area("B2:D3")
	for _, x := range []struct {
		row, col api.Value
		wants    string
	}{
		{n(1), n(1), "B2"}, {n(2), n(1), "B3"}, {n(1), n(2), "C2"}, {n(1), n(3), "D2"}, {n(2), n(3), "D3"}, {n(3), n(1), ""}, {n(1), n(4), ""}, {n(0), n(1), ""}, {n(1), n(0), ""}, {n(0), n(2), ""},
		{n(-1), n(1), ""}, {n(3), n(3), ""}, {n(api.MaxNum), n(1), ""}, {n(1), n(-api.MaxNum), ""}, {n(0), n(4), ""}, {part(1, 2), n(1), ""}, {n(1), part(3, 2), ""},
		{txt("1"), n(1), ""}, {n(1), txt("1"), ""}, {blank, n(1), ""}, {n(1), blank, ""}, {truth(true), n(1), ""}, {n(1), truth(true), ""},
		{bad(api.FaultNA), n(1), ""}, {n(1), bad(api.FaultNA), ""}, {bad(api.FaultNA), bad(api.FaultDiv), ""}, {bad(api.FaultDiv), bad(api.FaultNA), ""}, {txt("x"), bad(api.FaultNum), ""}, {n(9), bad(api.FaultNum), ""},
	} {
		f := begin(t, push(x.row), push(x.col), pickOf(a, 2), store())
		steps(t, f, 2)
		picks(t, f, x.wants, x.row, x.col)
	}
}

func TestPicksTakeTheTopOnes(t *testing.T) { // Promises 9.2, 9.3: values below stay as they are.
	l := []api.Ins{push(txt("low")), push(n(2)), pickOf(area("A1:A2"), 1), bin(api.OpJoin), store()}
	comes(t, l, cells{"A2": n(7)}, txt("low7"), 5, "A2")
	l = []api.Ins{push(bad(api.FaultNA)), push(n(2)), push(n(3)), pickOf(area("A1:A2"), 2), bin(api.OpJoin), store()}
	f := begin(t, l...)
	steps(t, f, 4)
	stacked(t, f, bad(api.FaultNA), bad(api.FaultRef))
}

func TestPicksOnOtherSheets(t *testing.T) { // Promise 9.2: cells of Area, at the edges of the whole sheet too.
	a := api.Area{Sheet: 15, Top: 65534, Left: 254, Bottom: 65535, Right: 255}
	last := api.Cell{Sheet: 15, Row: 65535, Col: 255}
	for _, l := range [][]api.Ins{{push(n(4)), pickOf(a, 1), store()}, {push(n(2)), push(n(2)), pickOf(a, 2), store()}} {
		f := begin(t, l...)
		steps(t, f, len(l)-2)
		if c, ok := f.Wants(); !ok || c != last {
			t.Fatal("it wants", c, ok)
		}
	}
	whole := api.Area{Bottom: api.MaxRows - 1, Right: api.MaxCols - 1}
	f := begin(t, push(n(api.MaxRows*api.MaxCols)), pickOf(whole, 1), store())
	steps(t, f, 1)
	wants(t, f, "IV65536")
	for _, more := range []int{1, 2} {
		f = begin(t, push(n(api.MaxRows*api.MaxCols+more)), pickOf(whole, 1), store())
		steps(t, f, 1)
		wantsNone(t, f)
	}
}
