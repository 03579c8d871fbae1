package code

import (
	"math"
	"slices"
	"strings"
	"testing"

	"whittle/api"
	"whittle/funcs"
	"whittle/value"
)

// around is a code with one instruction that takes so many values, puts one there, and stands behind these folds.
func around(ins api.Ins, values int, folds ...int) []api.Ins {
	var l []api.Ins
	for _, id := range folds {
		l = append(l, open(id))
	}
	for range values {
		l = append(l, push(1))
	}
	return append(l, ins, store())
}

func TestPushed(t *testing.T) { // Promise 8.1: V, right, Blank too.
	for _, v := range []api.Value{value.Blank(), n(0), n(-api.MaxNum), n(api.MaxNum), {Kind: api.Number, Num: api.Num{N: -7, D: api.MaxDen}}, value.Text(""), value.Text("~ "), value.Text(strings.Repeat("x", api.MaxText)), value.Truth(true), value.Truth(false), value.Fault(api.FaultDiv), value.Fault(api.FaultArg)} {
		isCode(t, api.Ins{Op: api.InsPush, V: v}, store())
	}
	for _, v := range []api.Value{{Kind: -1}, {Kind: 5}, {Kind: math.MinInt}, {Num: api.Num{N: 1, D: 1}}, {Kind: api.Number}, {Kind: api.Number, Num: api.Num{N: 2, D: 2}}, {Kind: api.Number, Num: api.Num{N: api.MaxNum + 1, D: 1}}, {Kind: api.Number, Num: api.Num{N: 1, D: api.MaxDen + 1}}, {Kind: api.Text, Text: strings.Repeat("x", api.MaxText+1)}, {Kind: api.Text, Text: "\n"}, {Kind: api.Text, Text: "é"}, {Kind: api.Text, True: true}, {Kind: api.Truth, Text: "x"}, {Kind: api.Fault}, {Kind: api.Fault, Fault: 9}} {
		isNone(t, api.Ins{Op: api.InsPush, V: v}, store())
	}
}

func TestLoaded(t *testing.T) { // Promise 8.1: Cell, right.
	for _, c := range []api.Cell{{}, {Sheet: api.MaxSheets - 1, Row: api.MaxRows - 1, Col: api.MaxCols - 1}} {
		isCode(t, load(c), store())
	}
	for _, c := range []api.Cell{{Sheet: -1}, {Row: -1}, {Col: -1}, {Sheet: api.MaxSheets}, {Row: api.MaxRows}, {Col: api.MaxCols}, {Row: math.MaxInt}, {Col: math.MinInt}} {
		isNone(t, load(c), store())
	}
}

func TestOperations(t *testing.T) { // Promise 8.1: A, an operation of one, of two.
	ones := []int{api.OpNeg, api.OpPlus, api.OpPercent}
	twos := []int{api.OpAdd, api.OpSub, api.OpMul, api.OpDiv, api.OpPow, api.OpJoin, api.OpEq, api.OpNe, api.OpLt, api.OpLe, api.OpGt, api.OpGe}
	for _, op := range append(slices.Collect(between(-2, 40)), math.MinInt, math.MaxInt) {
		one, two := around(api.Ins{Op: api.InsUn, A: op}, 1), around(api.Ins{Op: api.InsBin, A: op}, 2)
		hold(t, slices.Contains(ones, op), one)
		hold(t, slices.Contains(twos, op), two)
	}
}

// between goes from a to b.
func between(a, b int) func(func(int) bool) {
	return func(yield func(int) bool) {
		for ; a <= b && yield(a); a++ {
		}
	}
}

// hold holds whether a list is a code.
func hold(t *testing.T, code bool, l []api.Ins) {
	t.Helper()
	if code {
		isCode(t, l...)
	} else {
		isNone(t, l...)
	}
}

func TestCalled(t *testing.T) { // Promise 8.1: A the Id of a scalar, B as many arguments as it takes.
	scalars := 0
	for _, id := range append(slices.Collect(between(-2, 80)), math.MinInt, math.MaxInt) {
		f, known := funcs.ById(id)
		for args := range 5 {
			takes := known && f.Class == api.ClassScalar && args >= f.Least && args <= f.Most
			hold(t, takes, around(call(id, args), args))
			if takes {
				scalars++
			}
		}
		for _, args := range []int{-1, math.MinInt, 31, math.MaxInt} {
			isNone(t, around(call(id, args), 1)...)
		}
	}
	// NA; 13 of one; 5 of two; 3 of one or two; MID.
	if scalars != 1+13+5+2*3+1 {
		t.Fatal("scalars with their numbers of arguments:", scalars)
	}
}

func TestOpened(t *testing.T) { // Promise 8.1: A the Id of a fold or search that funcs.Open takes.
	opened := 0
	for _, id := range append(slices.Collect(between(-2, 80)), math.MinInt, math.MaxInt) {
		takes := id >= api.FnSum && id <= api.FnLast || id >= api.FnMatch && id <= api.FnSumProduct
		hold(t, takes, []api.Ins{open(id), shut(), store()})
		if takes {
			opened++
		}
	}
	if opened != 20 {
		t.Fatal("folds and searches:", opened)
	}
}

// areas are right ones, and wrong ones.
func areas() (good, bad []api.Area) {
	last := api.Area{Sheet: api.MaxSheets - 1, Top: api.MaxRows - 1, Left: api.MaxCols - 1, Bottom: api.MaxRows - 1, Right: api.MaxCols - 1}
	good = []api.Area{{}, last, {Bottom: api.MaxRows - 1, Right: api.MaxCols - 1}}
	bad = []api.Area{{Sheet: -1}, {Sheet: api.MaxSheets}, {Top: -1}, {Left: -1}, {Bottom: api.MaxRows}, {Right: api.MaxCols}, {Top: 1}, {Left: 1}, {Top: math.MinInt, Bottom: math.MaxInt}, {Left: math.MinInt, Right: math.MaxInt}, {Bottom: math.MinInt}}
	return good, bad
}

func TestScanned(t *testing.T) { // Promise 8.1: Area, Pair, right; of one shape.
	good, bad := areas()
	for _, a := range good {
		isCode(t, open(api.FnSum), scan(a), shut(), store())
		isCode(t, open(api.FnSumIf), scan2(a, a), shut(), store())
	}
	for _, a := range bad {
		isNone(t, open(api.FnSum), scan(a), shut(), store())
		isNone(t, open(api.FnSumIf), scan2(a, a), shut(), store())
		isNone(t, open(api.FnSumIf), scan2(a, api.Area{}), shut(), store())
		isNone(t, open(api.FnSumIf), scan2(api.Area{}, a), shut(), store())
	}
}

func TestShapes(t *testing.T) { // Promise 8.1: as many rows, as many columns; where they lie is nothing to it.
	a := area(t, "B2:C4")
	for name, one := range map[string]bool{"B2:C4": true, "A1:B3": true, "IU65534:IV65536": true, "B2:C3": false, "B2:C5": false, "B2:B4": false, "B2:D4": false, "A1:C2": false, "A1:F1": false, "A1:A6": false} {
		b := area(t, name)
		b.Sheet = 3
		hold(t, one, []api.Ins{open(api.FnLookup), scan2(a, b), shut(), store()})
		hold(t, one, []api.Ins{open(api.FnLookup), scan2(b, a), shut(), store()})
	}
}

func TestPicked(t *testing.T) { // Promise 8.1: Area, right; B 1 or 2.
	good, bad := areas()
	for _, a := range good {
		for _, b := range []int{math.MinInt, -1, 0, 1, 2, 3, 4, math.MaxInt} {
			hold(t, b == 1 || b == 2, around(pick(a, b), min(max(b, 1), 5)))
		}
		isNone(t, pick(a, 0), store())
	}
	for _, a := range bad {
		isNone(t, around(pick(a, 1), 1)...)
	}
}

func TestOtherOps(t *testing.T) { // Promise 8.1: there are no others.
	for _, op := range []int{math.MinInt, -1, 0, 17, 18, math.MaxInt} {
		isNone(t, push(1), api.Ins{Op: op}, store())
		isNone(t, api.Ins{Op: op}, store())
		isNone(t, push(1), api.Ins{Op: op})
	}
}

// sampled is a code with each Op in it.
func sampled() []api.Ins {
	a := api.Area{Bottom: 1}
	return []api.Ins{
		load(api.Cell{Row: 1}), un(), choose(13, 3, 9), push(1), branch(7, 13), push(1), jump(13), open(api.FnSum), jump(11), open(api.FnSum), jump(11),
		scan(a), shut(), guard(25), push(1), push(2), bin(), call(api.FnAbs, 1), pick(a, 1), open(api.FnLookup), push(3), feed(), scan2(a, a), shut(), bin(), store(),
	}
}

func TestFieldsThatAreNotThere(t *testing.T) { // Promise 8.1: all other fields are zero.
	l := sampled()
	isCode(t, l...)
	extra := []func(*api.Ins){
		func(x *api.Ins) { x.A++ }, func(x *api.Ins) { x.A-- }, func(x *api.Ins) { x.B++ }, func(x *api.Ins) { x.B-- },
		func(x *api.Ins) { x.V = n(1) }, func(x *api.Ins) { x.V.True = true },
		func(x *api.Ins) { x.Cell.Sheet = 1 }, func(x *api.Ins) { x.Cell.Row = 1 }, func(x *api.Ins) { x.Cell.Col = 1 },
		func(x *api.Ins) { x.Area.Bottom = 1 }, func(x *api.Ins) { x.Area.Sheet = 1 }, func(x *api.Ins) { x.Pair.Right = 1 },
		func(x *api.Ins) { x.To = []int{len(l) - 1} }, func(x *api.Ins) { x.To = []int{0} },
	}
	own := map[int]string{api.InsPush: "V", api.InsLoad: "C", api.InsUn: "A", api.InsBin: "A", api.InsCall: "AB", api.InsOpen: "A", api.InsScan: "a", api.InsScan2: "ap", api.InsPick: "aB", api.InsBranch: "AB", api.InsJump: "A", api.InsGuard: "A", api.InsChoose: "TB"}
	letters := "AABBVVCCCaapTT"
	seen := map[int]bool{}
	for i := range l {
		seen[l[i].Op] = true
		for k, set := range extra {
			if strings.ContainsRune(own[l[i].Op], rune(letters[k])) {
				continue
			}
			other := slices.Clone(l)
			set(&other[i])
			isNone(t, other...)
		}
	}
	if len(seen) != api.InsStore {
		t.Fatal("not every Op is tried:", seen)
	}
}

func TestEmptyListIsNone(t *testing.T) { // Promise 8.1 and R3: nil and an empty list of places are one.
	l := sampled()
	for i := range l {
		if l[i].Op != api.InsChoose {
			l[i].To = make([]int, 0, 3)
		}
	}
	isCode(t, l...)
	isNone(t, push(1), choose(3), push(1), store())
	isNone(t, push(1), api.Ins{Op: api.InsChoose, B: 3, To: []int{}}, push(1), store())
}

func TestHowManyPlaces(t *testing.T) { // Promise 8.1: 1 to MaxArgs places.
	for many, right := range map[int]bool{0: false, 1: true, 2: true, api.MaxArgs - 1: true, api.MaxArgs: true, api.MaxArgs + 1: false, 1000: false} {
		hold(t, right, []api.Ins{push(1), choose(3, slices.Repeat([]int{2}, many)...), push(1), store()})
	}
}
