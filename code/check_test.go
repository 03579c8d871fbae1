package code

import (
	"math"
	"math/rand"
	"slices"
	"testing"

	"whittle/api"
)

func TestPlacesStandBehind(t *testing.T) { // Promise 8.2: all places that an instruction names stand behind it, in the list.
	wrong := []int{math.MinInt, -1, 0, 1, 6, 7, math.MaxInt}
	base := func(ins api.Ins) []api.Ins { return []api.Ins{push(1), ins, push(2), jump(5), push(3), store()} }
	isCode(t, base(branch(4, 5))...)
	isCode(t, base(choose(5, 2, 4))...)
	for _, p := range wrong {
		isNone(t, base(branch(p, 5))...)
		isNone(t, base(branch(4, p))...)
		isNone(t, base(choose(5, p, 4))...)
		isNone(t, base(choose(5, 4, p))...)
		isNone(t, base(choose(5, 4, 2, p))...)
		isNone(t, base(choose(p, 2, 4))...)
	}
	for _, p := range wrong[:5] {
		isNone(t, push(1), guard(p), push(2), store())
		isNone(t, push(1), jump(p), store())
	}
	isCode(t, push(1), guard(3), push(2), store())
	isCode(t, push(1), jump(2), store())
	isNone(t, push(1), guard(4), push(2), store())
	isNone(t, push(1), jump(3), store())
}

func TestOneStoreAtTheEnd(t *testing.T) { // Promise 8.2.
	isNone(t)
	isNone(t, push(1))
	isNone(t, push(1), un())
	isNone(t, push(1), jump(2))
	isNone(t, push(1), store(), store())
	isNone(t, push(1), store(), push(1), store())
	isNone(t, push(1), store(), push(1))
	isNone(t, push(1), branch(3, 4), push(2), store(), store())
	isNone(t, store())
	isNone(t, store(), store())
	isCode(t, push(1), store())
}

func TestStoreNeedsJustOneValue(t *testing.T) { // Promise 8.2: just 1 value, no fold.
	isNone(t, push(1), push(2), store())
	isNone(t, open(api.FnSum), store())
	isNone(t, open(api.FnSum), push(1), store())
	isNone(t, push(1), open(api.FnSum), store())
	isNone(t, open(api.FnSum), open(api.FnSum), shut(), store())
	isNone(t, push(1), open(api.FnSum), shut(), store())
}

func TestNeeds(t *testing.T) { // Promise 8.2, the column 'needs': as much, and one less.
	a := api.Area{Bottom: 1}
	for _, x := range []struct {
		ins    api.Ins
		values int
	}{{un(), 1}, {bin(), 2}, {call(api.FnNA, 0), 0}, {call(api.FnAbs, 1), 1}, {call(api.FnRound, 1), 1}, {call(api.FnRound, 2), 2}, {call(api.FnMid, 3), 3}, {pick(a, 1), 1}, {pick(a, 2), 2}} {
		isCode(t, around(x.ins, x.values)...)
		for fewer := range x.values {
			isNone(t, around(x.ins, fewer)...)
		}
		isNone(t, around(x.ins, x.values+1)...)
	}
	isNone(t, branch(2, 3), push(1), push(1), store())
	isNone(t, guard(2), push(1), store())
	isNone(t, choose(2, 1), push(1), store())
	isNone(t, feed(), push(1), store())
	isNone(t, push(1), feed(), push(1), store())
	isNone(t, open(api.FnSum), feed(), shut(), store())
	isCode(t, open(api.FnSum), push(1), feed(), shut(), store())
	isCode(t, push(1), open(api.FnSum), feed(), shut(), store())
	isNone(t, shut(), store())
	isNone(t, push(1), shut(), store())
	isNone(t, open(api.FnSum), shut(), shut(), store())
	isCode(t, jump(1), push(1), store())
}

func TestScansNeedTheirFold(t *testing.T) { // Promise 8.2: of SUMIF, LOOKUP, SUMPRODUCT InsScan2, of all others InsScan.
	a := api.Area{Right: 1}
	for id := range 80 {
		if !opens(id) {
			continue
		}
		two := id == api.FnSumIf || id == api.FnLookup || id == api.FnSumProduct
		hold(t, !two, []api.Ins{open(id), scan(a), shut(), store()})
		hold(t, two, []api.Ins{open(id), scan2(a, a), shut(), store()})
		// The last one, not the one below it.
		hold(t, !two, []api.Ins{open(api.FnLookup), open(id), scan(a), shut(), feed(), shut(), store()})
		hold(t, two, []api.Ins{open(api.FnSum), open(id), scan2(a, a), shut(), feed(), shut(), store()})
		hold(t, !two, []api.Ins{open(id), open(api.FnLookup), shut(), feed(), scan(a), shut(), store()})
		hold(t, two, []api.Ins{open(id), open(api.FnSum), shut(), feed(), scan2(a, a), shut(), store()})
	}
	isNone(t, scan(a), push(1), store())
	isNone(t, scan2(a, a), push(1), store())
	isNone(t, open(api.FnSum), shut(), scan(a), store())
	isNone(t, open(api.FnLookup), shut(), scan2(a, a), store())
}

func TestHandsOn(t *testing.T) { // Promise 8.2, the column 'hands on', where it is not to the next one alone.
	isCode(t, push(1), branch(2, 3), push(2), store()) // A is the next one
	isNone(t, push(1), branch(3, 2), push(2), store()) // B keeps its value
	isNone(t, push(1), branch(3, 3), push(2), store()) // A has lost it
	isCode(t, push(1), branch(4, 5), push(2), jump(5), push(3), store())
	isNone(t, push(1), branch(5, 4), push(2), jump(5), push(3), store())
	isNone(t, push(1), guard(2), store())
	isNone(t, push(1), guard(2), push(2), store())
	isNone(t, push(1), guard(3), jump(3), store())
	isCode(t, push(1), guard(4), push(1), un(), store())
	isCode(t, push(1), choose(3, 2), push(2), store())
	isNone(t, push(1), choose(2, 2), push(2), store())
	isNone(t, push(1), choose(2, 3), push(2), store())
	isNone(t, push(1), choose(3, 3), push(2), store())
	isNone(t, push(1), choose(3, 2, 3), push(2), store())
	isCode(t, push(1), push(2), choose(5, 3, 3, 3), push(3), jump(5), bin(), store())
	isNone(t, push(1), jump(3), push(2), store())
	isNone(t, push(1), push(2), jump(3), store())
}

func TestOneHeightByEveryWay(t *testing.T) { // Promise 8.2: values and folds are the same by every way.
	sum, least := api.FnSum, api.FnMin
	isNone(t, push(1), branch(4, 5), push(2), jump(5), jump(5), store())                                          // a value less
	isNone(t, push(1), branch(5, 6), push(2), push(3), jump(6), push(4), store())                                 // a value more
	isNone(t, push(1), branch(4, 6), open(sum), jump(5), open(least), shut(), store())                            // another fold
	isCode(t, push(1), branch(4, 6), open(sum), jump(5), open(sum), shut(), store())                              // the same fold, opened elsewhere
	isNone(t, push(1), branch(4, 6), open(sum), jump(5), jump(5), shut(), store())                                // a fold less
	isNone(t, push(1), branch(4, 8), open(sum), jump(6), open(sum), open(least), shut(), shut(), store())         // a fold more
	isNone(t, push(1), branch(4, 9), open(sum), jump(6), open(least), open(sum), shut(), feed(), shut(), store()) // rows of unlike length
	both := func(a, b, c, d int) []api.Ins {
		return []api.Ins{push(1), branch(5, 10), open(a), open(b), jump(7), open(c), open(d), shut(), feed(), shut(), store()}
	}
	isCode(t, both(sum, least, sum, least)...)
	isNone(t, both(sum, least, least, sum)...) // in another order
	isNone(t, both(sum, least, least, least)...)
	isNone(t, both(sum, least, sum, sum)...)
	// A fold closed and opened again is the same row.
	isCode(t, open(sum), push(1), branch(6, 7), shut(), open(sum), jump(7), push(2), feed(), shut(), store())
	isNone(t, open(sum), push(1), branch(6, 7), shut(), open(least), jump(7), push(2), feed(), shut(), store())
}

func TestEachIsHandedSomething(t *testing.T) { // Promise 8.2: each but the first one.
	isNone(t, push(1), jump(3), push(2), store())
	isNone(t, push(1), jump(3), un(), store())
	isNone(t, push(1), choose(4, 3), push(2), push(3), store())
	isNone(t, push(1), jump(4), push(2), jump(4), store())
	isNone(t, push(1), jump(3), jump(3), store())
	isNone(t, jump(2), push(1), store())
	isNone(t, jump(1), store())
}

// everyList calls it with each list of so many instructions of these, and InsStore behind them.
func everyList(size int, some []api.Ins, it func([]api.Ins)) {
	l := make([]api.Ins, size+1)
	l[size] = store()
	var fill func(int)
	fill = func(at int) {
		if at == size {
			it(l)
			return
		}
		for _, ins := range some {
			l[at] = ins
			fill(at + 1)
		}
	}
	fill(0)
}

// instructions are some of each Op, with all places up to the last one.
func instructions(last int) []api.Ins {
	a := api.Area{Right: 1}
	list := []api.Ins{push(1), un(), bin(), call(api.FnNA, 0), open(api.FnSum), open(api.FnLookup), feed(), scan(a), scan2(a, a), shut(), pick(a, 2), store()}
	for p := range last + 2 {
		list = append(list, jump(p), guard(p))
		for q := range last + 1 {
			list = append(list, branch(p, q), choose(p, q))
		}
	}
	return append(list, choose(last, last-1, last-2))
}

// agree holds Check, Bounds and Uses against the model; is it a code?
func agree(t *testing.T, l []api.Ins) bool {
	t.Helper()
	least, most, code := modelWays(l)
	hold(t, code, l)
	if code {
		bounded(t, l, least, most)
		using(t, l, modelUses(l)...)
	}
	return code
}

func TestEveryShortList(t *testing.T) { // Promises 8.1, 8.2, 8.5, 8.6, of all short lists.
	codes := 0
	for size := range 4 {
		everyList(size, instructions(size), func(l []api.Ins) {
			if agree(t, l) {
				codes++
			}
		})
	}
	a := api.Area{Right: 1}
	everyList(6, []api.Ins{push(1), bin(), open(api.FnSum), open(api.FnLookup), feed(), scan(a), shut()}, func(l []api.Ins) {
		if agree(t, l) {
			codes++
		}
	})
	everyList(5, []api.Ins{push(1), jump(3), jump(5), guard(4), guard(5), branch(3, 5), branch(4, 5), choose(5, 2, 4), choose(5, 3, 4), choose(5, 2, 2)}, func(l []api.Ins) {
		if agree(t, l) {
			codes++
		}
	})
	if codes < 150 {
		t.Error("just", codes, "of the lists are codes")
	}
}

// turned is a list with something turned in it.
func turned(r *rand.Rand, l []api.Ins) []api.Ins {
	l = slices.Clone(l)
	i, k := r.Intn(len(l)), r.Intn(len(l))
	some := instructions(min(len(l), 6))
	switch r.Intn(10) {
	case 0:
		l[i].A += r.Intn(5) - 2
	case 1:
		l[i].B += r.Intn(5) - 2
	case 2:
		l[i].Op += r.Intn(5) - 2
	case 3:
		l = slices.Delete(l, i, i+1)
	case 4:
		l = slices.Insert(l, i, l[k])
	case 5:
		l[i], l[k] = l[k], l[i]
	case 6:
		l[i].To = append(slices.Clone(l[i].To), r.Intn(len(l)+1))
	case 7:
		l[i].Area.Bottom += r.Intn(3) - 1
	case 8:
		l[i] = some[r.Intn(len(some))]
	case 9:
		l = slices.Insert(l, i, some[r.Intn(len(some))])
	}
	return l
}

func TestTurnedCodes(t *testing.T) { // Promises 8.1, 8.2, 8.5, 8.6, of codes in which something is turned.
	r := rand.New(rand.NewSource(8))
	codes, others := 0, 0
	for range 2000 {
		l, why := Flatten(anyFormula(r, 3), api.Cell{}, "S", "T")
		if why != api.OK || len(l) > 24 {
			continue
		}
		agree(t, l)
		for range 20 {
			other := turned(r, l)
			if r.Intn(3) == 0 && len(other) > 0 {
				other = turned(r, other)
			}
			if agree(t, other) {
				codes++
			} else {
				others++
			}
		}
	}
	if codes < 1000 || others < 1000 {
		t.Error("just", codes, "codes and", others, "others")
	}
}

func TestLongLists(t *testing.T) { // R1, R6: they end, and soon, however long, high and branched they are.
	const many = 70000
	var high []api.Ins
	high = append(high, slices.Repeat([]api.Ins{push(1)}, many)...)
	high = append(high, slices.Repeat([]api.Ins{bin()}, many-1)...)
	bounded(t, append(high, store()), 2*many, 2*many)
	// So many folds in one another, and as many ways as no one goes one by one.
	var deep []api.Ins
	deep = append(deep, slices.Repeat([]api.Ins{open(api.FnSum)}, many)...)
	deep = append(deep, shut())
	deep = append(deep, slices.Repeat([]api.Ins{feed(), shut()}, many-1)...)
	bounded(t, append(deep, store()), 3*many, 3*many)
	ways := []api.Ins{push(1)}
	for range many {
		at := len(ways)
		ways = append(ways, branch(at+4, at+5), push(1), un(), jump(at+5), push(1))
	}
	bounded(t, append(ways, store()), 2+many, 2+4*many)
	whole := api.Area{Bottom: api.MaxRows - 1, Right: api.MaxCols - 1}
	sums := []api.Ins{open(api.FnSumProduct)}
	sums = append(sums, slices.Repeat([]api.Ins{scan2(whole, whole)}, many)...)
	sums = append(sums, shut(), store())
	bounded(t, sums, many+3, many*2*api.MaxRows*api.MaxCols+3)
	using(t, sums, whole)
	var loads []api.Ins
	for i := range many {
		loads = append(loads, load(api.Cell{Row: i % api.MaxRows, Col: i / api.MaxRows}))
	}
	loads = append(append(loads, slices.Repeat([]api.Ins{bin()}, many-1)...), store())
	if uses := Uses(loads); len(uses) != many {
		t.Fatal(len(uses), "areas of", many)
	}
}
