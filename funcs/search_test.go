package funcs

import (
	"testing"

	"whittle/api"
)

func TestMatch(t *testing.T) { // Promise 7.6.
	for _, x := range []run{
		{"MATCH", []step{fed(n(3)), cell(blank), cell(txt("3")), cell(none), cell(is(true)), cell(n(3)), cell(n(3))}, n(5), true, false},
		{"MATCH", []step{cell(n(3)), fed(n(3)), cell(n(3))}, n(2), true, false},
		{"MATCH", []step{fed(txt("a")), cell(txt("A")), cell(txt("a"))}, n(2), true, false},
		{"MATCH", []step{fed(txt(">1")), cell(n(2)), cell(txt(">1"))}, n(2), true, false},
		{"MATCH", []step{fed(is(true)), cell(n(1)), cell(txt("TRUE")), cell(is(true))}, n(3), true, false},
		{"MATCH", []step{fed(n(1)), fed(n(2)), fed(none), cell(n(2))}, none, false, false},
		{"MATCH", []step{fed(blank), cell(blank), cell(n(0)), cell(txt("")), cell(is(false))}, none, false, false},
		{"MATCH", []step{fed(blank), fed(n(1)), cell(n(1))}, none, false, false},
		{"MATCH", []step{fed(lost), cell(lost)}, lost, true, false},
		{"MATCH", []step{fed(q(2, 4)), cell(n(1))}, valued, true, false},
		{"MATCH", []step{fed(n(1)), cell(none)}, none, false, false},
	} {
		x.check(t)
	}
	a := open(t, api.FnMatch)
	for _, x := range []step{fed(n(1)), cell(blank), cell(n(2)), pair(n(1)), cell(none)} {
		x.do(a)
	}
	if got := a.State(); got != (api.Acc{Fn: api.FnMatch, Num: zeroNum, Count: 3, Needle: n(1), Has: true}) {
		t.Fatalf("MATCH stands at %s", state(got))
	}
}

func TestLookup(t *testing.T) { // Promises 7.4 and 7.6.
	for _, x := range []run{
		{"LOOKUP", []step{fed(n(1)), cell(n(2)), pair(n(9)), cell(n(1))}, none, false, true},
		{"LOOKUP", []step{fed(n(1)), cell(n(1)), cell(n(1)), fed(n(5)), pair(txt("a")), pair(txt("b"))}, txt("a"), true, false},
		{"LOOKUP", []step{fed(n(1)), cell(n(1)), pair(blank)}, blank, true, false},
		{"LOOKUP", []step{fed(n(1)), cell(n(1)), pair(lost)}, lost, true, false},
		{"LOOKUP", []step{fed(n(1)), cell(n(1)), pair(q(2, 4))}, valued, true, false},
		{"LOOKUP", []step{fed(txt("=1")), cell(n(1)), cell(txt("1"))}, none, false, false},
		{"LOOKUP", []step{fed(blank), cell(blank), pair(n(1))}, none, false, false},
		{"LOOKUP", []step{cell(n(1)), pair(n(1))}, none, false, false},
		{"LOOKUP", []step{fed(lost)}, lost, true, false},
	} {
		x.check(t)
	}
}

func TestSumIf(t *testing.T) { // Promises 7.4 and 7.6.
	for _, x := range []run{
		{"SUMIF", []step{fed(txt("a")), cell(txt("a"))}, n(0), false, true},
		{"SUMIF", []step{fed(txt("a")), cell(txt("a")), cell(none), fed(none), pair(n(5)), pair(n(7)), cell(txt("b")), pair(n(9))}, n(5), false, false},
		{"SUMIF", []step{fed(txt(">1")), cell(n(2)), pair(txt("7")), cell(n(3)), pair(is(true)), cell(n(4)), pair(blank), cell(n(5)), pair(q(1, 2)), cell(n(1)), pair(n(3))}, q(1, 2), false, false},
		{"SUMIF", []step{fed(n(1)), cell(n(1)), pair(lost), cell(n(1)), pair(n(1))}, lost, true, false},
		{"SUMIF", []step{fed(n(1)), cell(n(1)), pair(n(top)), cell(n(1)), pair(n(1))}, unfit, true, false},
		{"SUMIF", []step{fed(n(1)), cell(none), pair(n(1)), cell(blank), pair(n(1))}, n(0), false, false},
		{"SUMIF", []step{cell(n(1)), pair(n(4))}, n(0), false, false},
		{"SUMIF", []step{fed(none), cell(n(1)), pair(n(1))}, none, true, false},
	} {
		x.check(t)
	}
}

func TestSumProduct(t *testing.T) { // Promises 7.4 and 7.6.
	for _, x := range []run{
		{"SUMPRODUCT", []step{fed(n(9)), fed(none), cell(n(2)), pair(n(3)), cell(n(4)), pair(txt("5")), cell(txt("6")), pair(n(8)), cell(is(true)), pair(n(1)), cell(blank), pair(n(1)), cell(n(5)), pair(q(1, 2))}, q(17, 2), false, false},
		{"SUMPRODUCT", []step{cell(n(2)), cell(n(3)), fed(n(1))}, n(0), false, true},
		{"SUMPRODUCT", []step{cell(n(2)), cell(n(3)), pair(n(5))}, n(10), false, false},
		{"SUMPRODUCT", []step{cell(lost), cell(n(1))}, lost, true, false},
		{"SUMPRODUCT", []step{cell(n(1)), pair(lost)}, lost, true, false},
		{"SUMPRODUCT", []step{cell(n(top)), pair(n(2))}, unfit, true, false},
		{"SUMPRODUCT", []step{cell(n(top)), pair(n(1)), cell(n(1)), pair(n(1))}, unfit, true, false},
		{"SUMPRODUCT", []step{cell(q(1, 2)), pair(q(1, bottom))}, unfit, true, false},
	} {
		x.check(t)
	}
}

func TestNeedles(t *testing.T) { // Promise 7.6: which of the cells meet which needle, of COUNTIF and of SUMIF.
	cells := []api.Value{blank, n(-1), n(1), n(2), n(3), txt(""), txt("2"), txt("a"), txt("b"), txt("=2"), txt("<2"), is(false), is(true), none, q(2, 4)}
	for _, x := range []struct {
		needle api.Value
		want   string // 1: it meets
	}{
		{blank, "000000000000000"},
		{n(2), "000100000000000"},
		{n(5), "000000000000000"},
		{txt(""), "000001000000000"},
		{txt("2"), "000000100000000"},
		{txt("a"), "000000010000000"},
		{is(false), "000000000001000"},
		{is(true), "000000000000100"},
		{txt("TRUE"), "000000000000000"},
		{txt("="), "000000000000000"},
		{txt("=2"), "000100000000000"},
		{txt("='2"), "000000100000000"},
		{txt("='"), "000001000000000"},
		{txt("=a"), "000000010000000"},
		{txt("==2"), "000000000100000"},
		{txt("=<2"), "000000000010000"},
		{txt("=TRUE"), "000000000000100"},
		{txt("=#N/A"), "000000000000000"},
		{txt("= 2"), "000000000000000"},
		{txt("<>"), "011111111111100"},
		{txt("<>2"), "011011111111100"},
		{txt("<>'2"), "011111011111100"},
		{txt("<>a"), "011111101111100"},
		{txt("<>TRUE"), "011111111111000"},
		{txt("<>#N/A"), "011111111111100"},
		{txt("<"), "000000000000000"},
		{txt("<2"), "011000000000000"},
		{txt("<4/2"), "011000000000000"},
		{txt("<a"), "000001100110000"},
		{txt("<TRUE"), "000000000001000"},
		{txt("<#N/A"), "000000000000000"},
		{txt("<=2"), "011100000000000"},
		{txt("<=a"), "000001110110000"},
		{txt("<=TRUE"), "000000000001100"},
		{txt("<="), "000000000000000"},
		{txt(">2"), "000010000000000"},
		{txt(">a"), "000000001000000"},
		{txt(">'"), "000000111110000"},
		{txt(">FALSE"), "000000000000100"},
		{txt(">"), "000000000000000"},
		{txt("><2"), "000000011100000"},
		{txt(">=2"), "000110000000000"},
		{txt(">=a"), "000000011000000"},
		{txt(">=FALSE"), "000000000001100"},
		{txt(">="), "000000000000000"},
		{txt(">=-1"), "011110000000000"},
		{txt(" >2"), "000000000000000"},
	} {
		for i, v := range cells {
			count, sum := open(t, api.FnCountIf), open(t, api.FnSumIf)
			count.Feed(x.needle)
			sum.Feed(x.needle)
			count.Cell(v)
			sum.Cell(v)
			meets := x.want[i] == '1'
			if sum.Wants() != meets || (count.Result() == n(1)) != meets {
				t.Fatalf("%s meets %s: %v, of SUMIF %v; want %v", told(v), told(x.needle), told(count.Result()), sum.Wants(), meets)
			}
		}
	}
}

func TestNeedleOfAllBytes(t *testing.T) { // Promise 7.6: the longest texts, with signs and without.
	long := xs(256)
	for _, x := range []struct {
		needle, cell string
		want         api.Value
	}{
		{long, long, n(1)}, {long, xs(255), n(0)}, {"=" + xs(255), xs(255), n(1)}, {">" + xs(255), long, n(1)}, {"<=" + xs(254), xs(254), n(1)}, {"<=" + xs(254), xs(255), n(0)}, {"<>" + xs(254), xs(254), n(0)},
	} {
		a := open(t, api.FnCountIf)
		a.Feed(txt(x.needle))
		a.Cell(txt(x.cell))
		if got := a.Result(); got != x.want {
			t.Fatalf("a needle of %d bytes and a cell of %d: %s", len(x.needle), len(x.cell), told(got))
		}
	}
}

func TestFaultyNeedles(t *testing.T) { // Promise 7.6: each fault ends each search, told as it is.
	for _, id := range []int{api.FnMatch, api.FnCountIf, api.FnSumIf, api.FnLookup} {
		for code := api.FaultDiv; code <= api.FaultArg; code++ {
			a := open(t, id)
			a.Feed(bad(code))
			if got := a.State(); got != (api.Acc{Fn: id, Num: zeroNum, Needle: bad(code), Has: true, Full: true, V: bad(code)}) {
				t.Fatalf("a needle %s: %s", told(bad(code)), state(got))
			}
		}
	}
}

func TestNoNeedleYet(t *testing.T) { // Promise 7.6: without Has no cell is held against Needle, whatever it is.
	for _, id := range []int{api.FnMatch, api.FnCountIf, api.FnSumIf, api.FnLookup} {
		a := back(t, api.Acc{Fn: id, Num: zeroNum, Needle: n(1)})
		a.Cell(n(1))
		want := api.Acc{Fn: id, Num: zeroNum, Needle: n(1)}
		if id == api.FnMatch {
			want.Count = 1
		}
		if got := a.State(); got != want {
			t.Fatalf("function %d stands at %s", id, state(got))
		}
		a.Feed(n(2))
		if got := a.State(); got.Needle != n(2) || !got.Has {
			t.Fatalf("function %d, fed, stands at %s", id, state(got))
		}
	}
}

func TestWhileItWants(t *testing.T) { // Promise 7.4: Feed and Cell do nothing.
	for _, s := range []api.Acc{
		{Fn: api.FnSumIf, Num: api.Num{N: 1, D: 2}, Needle: n(1), Has: true, Wants: true},
		{Fn: api.FnSumIf, Num: zeroNum, Wants: true},
		{Fn: api.FnLookup, Num: zeroNum, Needle: n(1), Has: true, Wants: true},
		{Fn: api.FnSumProduct, Num: zeroNum, Held: api.Num{N: 1, D: 1}, Wants: true},
	} {
		a := back(t, s)
		for _, v := range append(few(), unright()...) {
			a.Feed(v)
			a.Cell(v)
			if a.State() != s || !a.Wants() {
				t.Fatalf("%s makes %s to %s", told(v), state(s), state(a.State()))
			}
		}
		a.Pair(n(1))
		if a.Wants() {
			t.Fatalf("%s still wants", state(a.State()))
		}
	}
}

func TestNoPartnerAskedFor(t *testing.T) { // Promise 7.4: Pair does nothing then.
	for _, id := range accs() {
		for _, has := range []bool{false, true} {
			s := begun(id)
			s.Has = has
			a := back(t, s)
			for _, v := range append(few(), unright()...) {
				a.Pair(v)
				if a.State() != s {
					t.Fatalf("Pair of %s makes %s to %s", told(v), state(s), state(a.State()))
				}
			}
		}
	}
}
