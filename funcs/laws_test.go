package funcs

import (
	"math/rand"
	"slices"
	"testing"

	"whittle/api"
	"whittle/num"
	"whittle/value"
)

// cells is a fold that has taken these cells.
func cells(t *testing.T, id int, vs ...api.Value) *Acc {
	t.Helper()
	a := open(t, id)
	for _, v := range vs {
		a.Cell(v)
	}
	return a
}

func TestBackOfState(t *testing.T) { // Promise 7.9: wherever it is stopped, it goes on as if nothing had been.
	r := rand.New(rand.NewSource(9))
	vs := append(few(), n(1), n(1), n(2), n(3), txt("=1"), is(true), blank)
	for _, id := range accs() {
		for range 150 {
			l := []step{fed(vs[r.Intn(len(vs))])}
			for range 8 {
				l = append(l, step{"FCCPP"[r.Intn(5)], vs[r.Intn(len(vs))]})
			}
			whole := open(t, id)
			for _, x := range l {
				x.do(whole)
			}
			for cut := range len(l) + 1 {
				a := open(t, id)
				for i, x := range l {
					if i == cut {
						a = back(t, a.State())
					}
					x.do(a)
				}
				if a = back(t, a.State()); a.State() != whole.State() || a.Result() != whole.Result() {
					t.Fatalf("%sstopped behind %d: %s, want %s", played(l), cut, state(a.State()), state(whole.State()))
				}
			}
		}
	}
}

func TestBlankCells(t *testing.T) { // Promise 7.9: they turn nothing but the Count of MATCH.
	for _, id := range accs() {
		for _, s := range stands(id) {
			if !sound(s) {
				continue
			}
			a, want := back(t, s), s
			if id == api.FnMatch && !s.Full {
				want.Count++
			}
			if a.Cell(blank); a.State() != want {
				t.Fatalf("a blank cell makes %s to %s", state(s), state(a.State()))
			}
		}
	}
}

// orders calls it with each order of the values.
func orders(vs []api.Value, at int, it func([]api.Value)) {
	if at == len(vs) {
		it(vs)
		return
	}
	for i := at; i < len(vs); i++ {
		vs[at], vs[i] = vs[i], vs[at]
		orders(vs, at+1, it)
		vs[at], vs[i] = vs[i], vs[at]
	}
}

func TestOrderOfCells(t *testing.T) { // Promise 7.10: where none ends them.
	lists := [][]api.Value{
		{n(1), n(2), n(-3), q(1, 2), blank, txt("7")}, {n(6), n(-9), n(0), n(6), is(false), is(true)}, {q(1, 3), q(1, 7), q(-1, 3), n(100), txt("TRUE"), blank}, {n(top / 4), n(top / 4), n(-top / 4), n(0)}, {is(true), is(true), is(true), n(1)},
	}
	checked := 0
	for _, id := range []int{api.FnSum, api.FnProduct, api.FnCount, api.FnCountA, api.FnMin, api.FnMax, api.FnAverage, api.FnAnd, api.FnOr, api.FnXor, api.FnSumSq, api.FnGcd} {
		for _, list := range lists {
			ended := false
			orders(slices.Clone(list), 0, func(vs []api.Value) { ended = ended || cells(t, id, vs...).Full() })
			if ended {
				continue
			}
			checked++
			want := cells(t, id, list...).State()
			orders(slices.Clone(list), 0, func(vs []api.Value) {
				if got := cells(t, id, vs...).State(); got != want {
					t.Fatalf("%s makes %s, want %s", tellAll(vs), state(got), state(want))
				}
			})
		}
	}
	if checked < 35 {
		t.Fatalf("just %d were not ended", checked)
	}
}

func TestSumIsNumSum(t *testing.T) { // Promise 7.10.
	vs := []api.Value{n(0), n(1), n(-1), n(top), n(-top), q(1, 2), q(1, 999983), q(-1, 999979)}
	for many := range 5 {
		for row := range rows(vs, many) {
			var list []api.Num
			for _, v := range row {
				list = append(list, v.Num)
			}
			want, ok := num.Sum(list...)
			a, b := cells(t, api.FnSum, row...), open(t, api.FnSum)
			for _, v := range row {
				b.Feed(v)
			}
			if a.Full() == ok || a.State() != b.State() || ok && a.Result() != value.Number(want) || !ok && a.Result() != unfit {
				t.Fatalf("SUM of %s is %s", tellAll(row), told(a.Result()))
			}
		}
	}
}

func TestTwoRowsOfCells(t *testing.T) { // Promise 7.10: what they come to of two rows is what they come to of both.
	vs := []api.Value{n(0), n(2), n(-6), q(1, 2), is(true), is(false), blank, txt("3")}
	for _, id := range []int{api.FnSum, api.FnProduct, api.FnMin, api.FnMax, api.FnGcd, api.FnAnd, api.FnOr, api.FnXor, api.FnConcat, api.FnFirst, api.FnLast, api.FnCount, api.FnCountA, api.FnSumSq, api.FnAverage} {
		for row := range rows(vs, 4) {
			both := cells(t, id, row...)
			for cut := range 5 {
				a := back(t, cells(t, id, row[:cut]...).State())
				for _, v := range row[cut:] {
					a.Cell(v)
				}
				if a.State() != both.State() {
					t.Fatalf("%s, cut at %d: %s, want %s", tellAll(row), cut, state(a.State()), state(both.State()))
				}
			}
			if ofParts, ok := combined(t, id, row[:2], row[2:]); ok && !both.Full() && ofParts != both.Result() {
				t.Fatalf("function %d of %s: %s of its parts, %s of both", id, tellAll(row), told(ofParts), told(both.Result()))
			}
		}
	}
}

// combined is what two rows come to, made of what each comes to by itself; false: this one can't be made so.
func combined(t *testing.T, id int, x, y []api.Value) (api.Value, bool) {
	a, b := cells(t, id, x...).Result(), cells(t, id, y...).Result()
	switch id {
	case api.FnSum, api.FnSumSq, api.FnCount, api.FnCountA:
		return value.Bin(api.OpAdd, a, b), true
	case api.FnProduct:
		return value.Bin(api.OpMul, a, b), true
	case api.FnConcat:
		return value.Bin(api.OpJoin, a, b), true
	case api.FnGcd, api.FnXor:
		return cells(t, id, a, b).Result(), true
	}
	return blank, false
}
