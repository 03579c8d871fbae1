package heights

import (
	"slices"
	"testing"

	"whittle/api"
)

func TestHeightsAtEachPlace(t *testing.T) { // Promise 8.2: values, and folds from below, of each Op, by each way.
	a := api.Area{Bottom: 1}
	var none []int
	sum, both := []int{api.FnSum}, []int{api.FnSum, api.FnLookup}
	rows := []struct {
		ins    api.Ins
		values int
		folds  []int
	}{
		{api.Ins{Op: api.InsPush}, 0, none},
		{api.Ins{Op: api.InsLoad}, 1, none},
		{api.Ins{Op: api.InsBin, A: api.OpAdd}, 2, none},
		{api.Ins{Op: api.InsUn, A: api.OpNeg}, 1, none},
		{api.Ins{Op: api.InsBranch, A: 7, B: 16}, 1, none},
		{api.Ins{Op: api.InsOpen, A: api.FnSum}, 0, none},
		{api.Ins{Op: api.InsJump, A: 8}, 0, sum},
		{api.Ins{Op: api.InsOpen, A: api.FnSum}, 0, none},
		{api.Ins{Op: api.InsScan, Area: a}, 0, sum},
		{api.Ins{Op: api.InsOpen, A: api.FnLookup}, 0, sum},
		{api.Ins{Op: api.InsPush}, 0, both},
		{api.Ins{Op: api.InsFeed}, 1, both},
		{api.Ins{Op: api.InsScan2, Area: a, Pair: a}, 0, both},
		{api.Ins{Op: api.InsClose}, 0, both},
		{api.Ins{Op: api.InsFeed}, 1, sum},
		{api.Ins{Op: api.InsClose}, 0, sum},
		{api.Ins{Op: api.InsGuard, A: 20}, 1, none},
		{api.Ins{Op: api.InsPush}, 0, none},
		{api.Ins{Op: api.InsPush}, 1, none},
		{api.Ins{Op: api.InsPick, Area: a, B: 2}, 2, none},
		{api.Ins{Op: api.InsChoose, To: []int{23, 21}, B: 24}, 1, none},
		{api.Ins{Op: api.InsCall, A: api.FnNA}, 0, none},
		{api.Ins{Op: api.InsJump, A: 24}, 1, none},
		{api.Ins{Op: api.InsPush}, 0, none},
		{api.Ins{Op: api.InsStore}, 1, none},
	}
	var l []api.Ins
	for _, row := range rows {
		l = append(l, row.ins)
	}
	h, ok := Of(l)
	if !ok {
		t.Fatal("it has no heights")
	}
	for at, row := range rows {
		values, folds := h.At(at)
		if values != row.values || !slices.Equal(folds, row.folds) {
			t.Errorf("at %d: %d values and %v, not %d and %v", at, values, folds, row.values, row.folds)
		}
		// What is told is new memory.
		again := append(folds, -1)
		for i := range again {
			again[i] = -1
		}
		if _, folds := h.At(at); !slices.Equal(folds, row.folds) {
			t.Errorf("at %d: %v behind a change", at, folds)
		}
	}
}

func TestNoHeights(t *testing.T) { // Promise 8.2: too few values, other folds by another way, and nothing handed on.
	push, jump, store := api.Ins{Op: api.InsPush}, api.Ins{Op: api.InsJump, A: 3}, api.Ins{Op: api.InsStore}
	for _, l := range [][]api.Ins{
		{store}, {{Op: api.InsUn}, store}, {push, push, store}, {{Op: api.InsClose}, store}, {push, push, jump, push, store}, {push, jump, push, store},
		{push, {Op: api.InsBranch, A: 4, B: 6}, {Op: api.InsOpen, A: api.FnSum}, {Op: api.InsJump, A: 5}, {Op: api.InsOpen, A: api.FnMin}, {Op: api.InsClose}, store},
	} {
		if h, ok := Of(l); ok || h != nil {
			t.Errorf("%v has heights", l)
		}
	}
	if _, ok := Of([]api.Ins{push, store}); !ok {
		t.Error("a code has none")
	}
}

func TestPairs(t *testing.T) { // Promise 8.2: SUMIF, LOOKUP, SUMPRODUCT.
	for id := -1; id < 70; id++ {
		if Pairs(id) != (id == 22 || id == 23 || id == 24) {
			t.Error(id)
		}
	}
}
