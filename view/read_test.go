package view

import (
	"fmt"
	"testing"

	"whittle/api"
)

func TestReadFresh(t *testing.T) { // Promise 17.2, W1: a fresh cell tells its value, Fresh, Ever, if it has contents, and the version as it is.
	x := settled(t, "A1", "2", "B1", "'x", "C1", "TRUE", "A2", "#N/A", "B2", "=A1*3", "C2", "=C2", "A3", "=C2+1", "B3", "=IV1", "T!A1", "=S!A1")
	for version := 1; version < 4; version++ {
		for name, v := range map[string]api.Value{"A1": n(2), "B1": txt("x"), "C1": truth(true), "A2": bad(api.FaultNA), "B2": n(6), "C2": circle(), "A3": circle(), "B3": blank(), "T!A1": n(2)} {
			reads(t, x, name, fresh(v, version))
		}
		for _, name := range []string{"IV1", "IV65536", "T!IV65536", "U!A1"} {
			reads(t, x, name, vacant(version))
		}
		edited(t, x, "Z9", fmt.Sprint(version)) // which none of them reaches
	}
}

func TestReadOfNoCell(t *testing.T) { // Promise 17.3: ErrCell of what is no cell of the book, and nothing else.
	x := settled(t, "A1", "2", "B1", "=A1")
	for _, c := range strange() {
		if got, why := x.Read(c); got != (api.Seen{}) || why != api.ErrCell {
			t.Errorf("Read(%v): %v, %d", c, got, why)
		}
	}
	one, _ := New("S")
	full, _ := New(many(api.MaxSheets)...)
	for sheet := range api.MaxSheets {
		c := api.Cell{Sheet: sheet, Row: api.MaxRows - 1, Col: api.MaxCols - 1}
		if got, why := one.Read(c); (why == api.OK) != (sheet == 0) || why == api.ErrCell && got != (api.Seen{}) {
			t.Errorf("Read(%v) of one sheet: %v, %d", c, got, why)
		}
		if got, why := full.Read(c); got != vacant(0) || why != api.OK {
			t.Errorf("Read(%v) of all sheets: %v, %d", c, got, why)
		}
	}
}

func TestReadStale(t *testing.T) { // Promise 17.2: what a fresh cell with contents told ahead of the edit that makes it stale, it goes on telling, of the version ahead, behind however many edits.
	x := settled(t, "A1", "2", "B1", "=A1*2", "C1", "5", "A2", "=B1+1")
	edited(t, x, "Z9", "1")
	edited(t, x, "A1", "3", "C1", "=A1") // 3
	reads(t, x, "B1", old(n(4), 2))
	reads(t, x, "A2", old(n(5), 2))
	reads(t, x, "C1", old(n(5), 2))
	for version := 4; version < 9; version++ {
		edited(t, x, "A1", fmt.Sprint(version), "C1", fmt.Sprint("=A1+", version), "Z9", "2")
		reads(t, x, "B1", old(n(4), 2))
		reads(t, x, "A2", old(n(5), 2))
		reads(t, x, "C1", old(n(5), 2))
		reads(t, x, "A1", fresh(n(version), version))
	}
	ticked(t, x, 0, 4, 4) // B1
	reads(t, x, "B1", fresh(n(16), 8))
	reads(t, x, "A2", old(n(5), 2))
	edited(t, x, "B1", "=A1") // 9: A2 was stale, and goes on so
	reads(t, x, "B1", old(n(16), 8))
	reads(t, x, "A2", old(n(5), 2))
	settle(t, x)
	edited(t, x, "Z9", "3")
	edited(t, x, "B1", "7") // 11
	reads(t, x, "B1", fresh(n(7), 11))
	reads(t, x, "A2", old(n(9), 10))
}

func TestReadOfContentsThatStay(t *testing.T) { // DOC.md, 'the cells of an edit': a change to the contents that a cell has makes it stale, too.
	x := settled(t, "A1", "2", "B1", "=A1", "C1", "=B1")
	edited(t, x, "B1", "=A1")
	reads(t, x, "B1", old(n(2), 1))
	reads(t, x, "C1", old(n(2), 1))
	edited(t, x, "A1", "2")
	reads(t, x, "A1", fresh(n(2), 3))
	reads(t, x, "B1", old(n(2), 1))
}

func TestReadNever(t *testing.T) { // Promise 17.2: a cell that was empty when it was fresh last tells Blank, and nothing else, until it is fresh.
	x := opened(t, "A1", "=B1")
	reads(t, x, "A1", never())
	edited(t, x, "B1", "5")
	reads(t, x, "A1", never())
	edited(t, x, "A1", "=B1*2", "A2", "=A1", "T!A1", "=S!A1")
	reads(t, x, "A1", never())
	reads(t, x, "A2", never())
	reads(t, x, "T!A1", never())
	ticked(t, x, 0, 3, 3)
	reads(t, x, "A1", never())
	ticked(t, x, 0, 1, 1)
	reads(t, x, "A1", fresh(n(10), 3))
	reads(t, x, "A2", never())
	edited(t, x, "B1", "6")
	reads(t, x, "A1", old(n(10), 3))
	reads(t, x, "A2", never())
	settle(t, x)
	reads(t, x, "A2", fresh(n(12), 4))
	reads(t, x, "T!A1", fresh(n(12), 4))
}

func TestReadOfBlankFormulas(t *testing.T) { // Promise 17.2: a formula that was fresh and Blank was so with contents: it says Ever.
	x := settled(t, "A1", "=IV1")
	reads(t, x, "A1", fresh(blank(), 1))
	edited(t, x, "IV1", "5")
	reads(t, x, "A1", old(blank(), 1))
	edited(t, x, "IV1", "")
	reads(t, x, "A1", old(blank(), 1))
	reads(t, x, "IV1", vacant(3))
}

func TestReadOfConstants(t *testing.T) { // Promise 17.2: a constant is fresh at once; one that becomes a formula tells what it told.
	x := opened(t, "A1", "2")
	edited(t, x, "A1", "x")
	reads(t, x, "A1", fresh(txt("x"), 2))
	edited(t, x, "A1", "=1+1")
	reads(t, x, "A1", old(txt("x"), 2))
	edited(t, x, "A1", "=1+2")
	reads(t, x, "A1", old(txt("x"), 2))
	edited(t, x, "A1", "9") // stale, and fresh at once
	reads(t, x, "A1", fresh(n(9), 5))
	edited(t, x, "A1", "=2")
	reads(t, x, "A1", old(n(9), 5))
}

func TestReadOfCircles(t *testing.T) { // Promise 17.2, W6: cells that become cyclic, while fresh and while stale, tell #CIRCLE! at once; those that cease to be tell it as stale ones.
	x := settled(t, "A1", "2", "B1", "=A1", "C1", "=B1", "A2", "=C1")
	edited(t, x, "A1", "=C1") // all were fresh
	for _, name := range []string{"A1", "B1", "C1", "A2"} {
		reads(t, x, name, fresh(circle(), 2))
	}
	idleIs(t, x, true)
	edited(t, x, "Z9", "1")
	edited(t, x, "B1", "4")
	reads(t, x, "B1", fresh(n(4), 4))
	for _, name := range []string{"A1", "C1", "A2"} {
		reads(t, x, name, old(circle(), 3))
	}
	ticked(t, x, 0, 2, 2) // C1
	reads(t, x, "C1", fresh(n(4), 4))
	edited(t, x, "B1", "=C1+A2") // C1 fresh, A1 and A2 stale
	for _, name := range []string{"A1", "B1", "C1", "A2"} {
		reads(t, x, name, fresh(circle(), 5))
	}
	edited(t, x, "B1", "=5", "A2", "")
	reads(t, x, "A2", vacant(6))
	reads(t, x, "B1", old(circle(), 5))
	reads(t, x, "C1", old(circle(), 5))
	reads(t, x, "A1", old(circle(), 5))
	edited(t, x, "U!A1", "=U!A1") // cyclic from its beginning on
	reads(t, x, "U!A1", fresh(circle(), 7))
	edited(t, x, "U!A1", "=1")
	reads(t, x, "U!A1", old(circle(), 7))
	reads(t, x, "C1", old(circle(), 5))
}

func TestReadOfNeverAndCircles(t *testing.T) { // Promise 17.2: a cell that was never fresh with contents, and becomes cyclic, was fresh with contents.
	x := opened(t, "A1", "=B1")
	reads(t, x, "A1", never())
	edited(t, x, "B1", "=A1")
	reads(t, x, "A1", fresh(circle(), 2))
	edited(t, x, "B1", "")
	reads(t, x, "A1", old(circle(), 2))
	reads(t, x, "B1", vacant(3))
}

func TestReadOfEmptied(t *testing.T) { // Promise 17.2: what was emptied, while fresh or while stale, and is filled anew with a formula, tells nothing.
	x := settled(t, "A1", "2", "B1", "=A1", "C1", "=A1", "A2", "7", "B2", "=B2", "C2", "=A1")
	edited(t, x, "A1", "3") // B1, C1 and C2 are stale
	edited(t, x, "B1", "", "A2", "", "B2", "", "C2", "8")
	for _, name := range []string{"B1", "A2", "B2"} {
		reads(t, x, name, vacant(3))
	}
	reads(t, x, "C1", old(n(2), 1))
	edited(t, x, "Z9", "1")
	edited(t, x, "B1", "=A1", "A2", "=A1", "B2", "=A1", "C2", "=A1")
	for _, name := range []string{"B1", "A2", "B2"} {
		reads(t, x, name, never())
	}
	reads(t, x, "C2", old(n(8), 4))
	settle(t, x)
	for _, name := range []string{"B1", "C1", "A2", "B2", "C2"} {
		reads(t, x, name, fresh(n(3), 5))
	}
	edited(t, x, "B1", "") // while fresh
	edited(t, x, "B1", "=A1")
	reads(t, x, "B1", never())
	edited(t, x, "B1", "")
	edited(t, x, "B1", "4") // a constant is fresh, and says Ever
	reads(t, x, "B1", fresh(n(4), 9))
	edited(t, x, "B1", "=A1")
	reads(t, x, "B1", old(n(4), 9))
}

func TestReadOfEmptyThatAreUsed(t *testing.T) { // Promise 17.2: an empty cell is fresh, whoever uses it, and is read as such.
	x := opened(t, "B1", "=A1", "C1", "=SUM(A1:A9)")
	reads(t, x, "A1", vacant(1))
	edited(t, x, "A1", "")
	reads(t, x, "A1", vacant(2))
	edited(t, x, "A1", "=5")
	reads(t, x, "A1", never())
	reads(t, x, "B1", never())
}

func TestTicksMakeFresh(t *testing.T) { // Promises 17.1, 17.2, W6: a tick, and a trace, turn what the cells tell that they make fresh, and of no other cell.
	for _, traces := range []bool{false, true} {
		x := settled(t, "A1", "2", "B1", "=A1", "C1", "=B1+1", "A2", "=SUM(A1:C1)", "T!A1", "=S!A2", "T!B1", "=5")
		edited(t, x, "A1", "3")
		for task := 0; !x.Idle(); task = 1 - task {
			ahead := map[api.Cell]api.Seen{}
			for _, c := range universe() {
				ahead[c] = read(t, x, c)
			}
			next, _ := x.Next(task)
			if traces {
				traced(t, x, task, 1)
			} else if _, why := x.Tick(task, 1); why != api.OK {
				t.Fatal(why)
			}
			for _, c := range universe() {
				got, was := read(t, x, c), ahead[c]
				if turned := got != was; turned && (c != next || was.Fresh || !got.Fresh || !got.Ever || got.Version != 2) {
					t.Errorf("%s has told %v, and tells %v behind a step of %s", names(c), was, got, names(next))
				}
			}
		}
		reads(t, x, "B1", fresh(n(3), 2))
		reads(t, x, "C1", fresh(n(4), 2))
		reads(t, x, "A2", fresh(n(10), 2))
		reads(t, x, "T!A1", fresh(n(10), 2))
		reads(t, x, "T!B1", fresh(n(5), 2))
	}
}

func TestTicksAndTracesAnswer(t *testing.T) { // Promise 17.1: Tick and Trace do what the tasks' do, and answer it, refusals too.
	x := opened(t, "A1", "2", "B1", "=A1+A1", "C1", "=B1")
	for _, task := range oddTasks() {
		for _, budget := range []int{-1, 0, 1, api.MaxTrace + 1} {
			if k, why := x.Tick(task, budget); k != 0 || why != api.ErrTask {
				t.Errorf("Tick(%d, %d): %d, %d", task, budget, k, why)
			}
			if l, why := x.Trace(task, budget); len(l) != 0 || why != api.ErrTask {
				t.Errorf("Trace(%d, %d): %v, %d", task, budget, l, why)
			}
		}
	}
	for _, budget := range []int{-1, -1 << 63} {
		if k, why := x.Tick(0, budget); k != 0 || why != api.ErrBudget {
			t.Error(k, why)
		}
		if l, why := x.Trace(0, budget); len(l) != 0 || why != api.ErrBudget {
			t.Error(l, why)
		}
	}
	if l, why := x.Trace(0, api.MaxTrace+1); len(l) != 0 || why != api.ErrBudget {
		t.Error(l, why)
	}
	ticked(t, x, 0, 0, 0)
	if l := traced(t, x, 0, 0); len(l) != 0 {
		t.Error(l)
	}
	parkedIs(t, x, 0, "", 0)
	ticked(t, x, 1, 1<<62, 0)
	l := traced(t, x, 0, 2)
	if len(l) != 2 || l[0] != (api.Event{Cell: at("B1"), Reads: true, Read: at("A1"), V: n(2)}) || l[1] != l[0] {
		t.Error(l)
	}
	parkedIs(t, x, 0, "B1", 2)
	ticked(t, x, 0, 1, 1)
	l = traced(t, x, 0, api.MaxTrace)
	if len(l) != 3 || l[0] != (api.Event{Cell: at("B1"), Wrote: true, V: n(4)}) || l[2] != (api.Event{Cell: at("C1"), Wrote: true, V: n(4)}) {
		t.Error(l)
	}
	ticked(t, x, 0, 1<<62, 0)
}

func TestIdle(t *testing.T) { // Promise 17.3: whether nothing is stale, at every moment.
	x := opened(t)
	idleIs(t, x, true)
	edited(t, x, "A1", "2", "B1", "=B1")
	idleIs(t, x, true)
	edited(t, x, "C1", "=A1", "T!A1", "=S!C1")
	idleIs(t, x, false)
	ticked(t, x, 0, 1, 1)
	idleIs(t, x, false)
	ticked(t, x, 0, 1, 1)
	idleIs(t, x, false) // T!A1
	ticked(t, x, 1, 1, 1)
	idleIs(t, x, false)
	x.Edit()
	idleIs(t, x, false)
	ticked(t, x, 1, 1, 1)
	idleIs(t, x, true)
	edited(t, x, "A1", "3")
	idleIs(t, x, false)
	edited(t, x, "A1", "=T!A1") // all of them are cyclic
	idleIs(t, x, true)
	edited(t, x, "A1", "")
	idleIs(t, x, false)
	edited(t, x, "C1", "", "T!A1", "7")
	idleIs(t, x, true)
}
