package machine

import (
	"math"
	"strings"
	"testing"

	"whittle/api"
	"whittle/funcs"
	"whittle/value"
)

func TestNewIsRefused(t *testing.T) { // Promise 9.1: ErrCode, if l is no code.
	for _, l := range [][]api.Ins{
		nil, {}, {store()}, {push(n(1))}, {push(n(1)), push(n(1)), store()}, {push(n(1)), store(), store()}, {push(api.Value{Kind: 9}), store()}, {load(api.Cell{Row: -1}), store()},
		{push(n(1)), jump(1), store()}, {push(n(1)), jump(3), store()}, {un(api.OpNeg), store()}, {open(api.FnSum), store()}, {open(api.FnSum), scan2(area("A1:A2"), area("A1:A2")), shut(), store()},
		{open(api.FnIndex), shut(), store()}, {push(n(1)), un(api.OpAdd), store()}, {push(n(1)), {Op: 17}, store()}, {push(n(1)), {Op: api.InsStore, A: 1}},
	} {
		if f, why := New(l); f != nil || why != api.ErrCode {
			t.Fatalf("New(%v): %d", l, why)
		}
		refused(t, l, api.Frame{}, api.ErrCode)
		refused(t, l, api.Frame{At: -1, Steps: -1, Stack: []api.Value{n(1)}}, api.ErrCode)
	}
}

func TestNewBegins(t *testing.T) { // Promise 9.1: at the first instruction, with nothing on it, no step done.
	for _, s := range []string{"A1+2", "SUM(A1:A3)", "1", "INDEX(A1:B2,1)", "IF(A1,1,2)"} {
		f := begin(t, flat(t, s)...)
		standing(t, f, api.Frame{})
		stacked(t, f)
		unscanned(t, f)
		if r, ok := f.Result(); f.Done() || ok || r != blank || f.Steps() != 0 {
			t.Fatalf("%s begins with %v %t, %d steps, Done %t", s, r, ok, f.Steps(), f.Done())
		}
	}
}

func TestPushAndLoad(t *testing.T) { // Promise 9.3: V, v is put on the stack, whatever it is.
	for _, v := range []api.Value{blank, n(3), part(-1, 7), txt(""), txt("~"), txt(strings.Repeat("x", api.MaxText)), truth(true), truth(false), bad(api.FaultArg)} {
		f := begin(t, push(v), load(at("B9")), bin(api.OpEq), store())
		steps(t, f, 1)
		stacked(t, f, v)
		wants(t, f, "B9")
		step(t, f, v)
		stacked(t, f, v, v)
		standing(t, f, api.Frame{At: 2, Steps: 2, Stack: []api.Value{v, v}})
	}
}

// wrongs are values that are not right.
func wrongs() []api.Value {
	return []api.Value{
		{Kind: 9}, {Kind: -1}, {Kind: api.Number}, {Kind: api.Number, Num: api.Num{N: 2, D: 4}}, {Kind: api.Number, Num: api.Num{N: api.MaxNum + 1, D: 1}}, {Kind: api.Number, Num: api.Num{N: math.MinInt, D: -1}},
		{Kind: api.Number, Num: api.Num{N: 1, D: 1}, Text: "x"}, {Num: api.Num{N: 1, D: 1}}, {True: true}, {Kind: api.Text, Text: "\n"}, {Kind: api.Text, Text: strings.Repeat("x", api.MaxText+1)},
		{Kind: api.Truth, Fault: 1}, {Kind: api.Fault}, {Kind: api.Fault, Fault: 9}, {Kind: api.Fault, Fault: 1, True: true},
	}
}

func TestWrongValuesCount(t *testing.T) { // Promise 9.3: one that is not right counts as #VALUE!.
	for _, v := range wrongs() {
		comes(t, flat(t, "A1"), cells{"A1": v}, bad(api.FaultValue), 2, "A1")
		comes(t, flat(t, "INDEX(A1:B2,4)"), cells{"B2": v}, bad(api.FaultValue), 3, "B2")
		comes(t, flat(t, "SUM(A1:B2)"), cells{"A1": n(1), "B1": v}, bad(api.FaultValue), 5, "A1", "B1")
		comes(t, flat(t, "LAST(A1:A2)"), cells{"A1": n(1), "A2": v}, bad(api.FaultValue), 5, "A1", "A2")
		comes(t, flat(t, "LOOKUP(1,A1:A2,B1:B2)"), cells{"A1": v, "A2": n(1), "B2": v}, bad(api.FaultValue), 8, "A1", "A2", "B2")
		comes(t, flat(t, "COUNTA(A1:A2)"), cells{"A1": v}, n(1), 5, "A1", "A2")
	}
}

func TestValuesNotAskedFor(t *testing.T) { // Promise 9.3: v is not looked at, if Wants told none.
	for _, v := range append(wrongs(), blank, n(1), txt("x"), bad(api.FaultNA)) {
		f := begin(t, flat(t, "IFERROR(CHOOSE(2,1,-(1+2)),1)&IF(TRUE,ABS(2),3)&SUM(1,INDEX(A1:B2,9))&FIRST(4,A1:A2)")...)
		for !f.Done() {
			wantsNone(t, f)
			step(t, f, v)
		}
		if r, _ := f.Result(); r != bad(api.FaultRef) {
			t.Fatalf("with %v it comes to %v", v, r)
		}
	}
	comes(t, flat(t, "FIRST(4,A1:A2)&MATCH(NA(),A1:A2)"), nil, bad(api.FaultNA), 12)
}

func TestOperations(t *testing.T) { // Promise 9.3: value.Un, value.Bin, the second one on top.
	vs := []api.Value{blank, n(3), part(1, 2), txt("2"), txt("x"), truth(true), bad(api.FaultNA), bad(api.FaultRef)}
	for op := range 30 {
		for _, a := range vs {
			if op >= api.OpNeg && op <= api.OpPercent {
				comes(t, []api.Ins{push(a), un(op), store()}, nil, value.Un(op, a), 3)
			}
			for _, b := range vs {
				if op >= api.OpAdd && op <= api.OpJoin || op >= api.OpEq && op <= api.OpGe {
					comes(t, []api.Ins{push(a), push(b), bin(op), store()}, nil, value.Bin(op, a, b), 4)
				}
			}
		}
	}
	f := begin(t, push(n(9)), push(n(7)), push(n(2)), bin(api.OpSub), bin(api.OpSub), store())
	steps(t, f, 4)
	stacked(t, f, n(9), n(5))
	steps(t, f, 1)
	stacked(t, f, n(4))
}

func TestCalls(t *testing.T) { // Promise 9.3: the B top values, the last argument on top, become funcs.Apply of them.
	vs := []api.Value{txt("abcdef"), n(2), n(3)}
	scalars := 0
	for _, sig := range funcs.All() {
		for args := sig.Least; sig.Class == api.ClassScalar && args <= sig.Most; args++ {
			l := []api.Ins{push(txt("low"))}
			for _, v := range vs[:args] {
				l = append(l, push(v))
			}
			f := begin(t, append(l, call(sig.Id, args), bin(api.OpJoin), store())...)
			steps(t, f, args+2)
			stacked(t, f, txt("low"), funcs.Apply(sig.Id, vs[:args]...))
			scalars++
		}
	}
	if scalars != 26 {
		t.Fatal("scalars with their numbers of arguments:", scalars)
	}
	comes(t, flat(t, `MID("abcdef",2,3)`), nil, txt("bcd"), 5)
}

func TestOpenAndClose(t *testing.T) { // Promise 9.3: a fold that begins becomes the top one; it is taken off, and its Result put on the stack.
	for _, sig := range funcs.All() {
		fold, why := funcs.Open(sig.Id)
		if why != api.OK {
			continue
		}
		f := begin(t, push(txt("low")), open(api.FnSum), open(sig.Id), shut(), feed(), shut(), bin(api.OpJoin), store())
		steps(t, f, 2)
		standing(t, f, api.Frame{At: 2, Steps: 2, Stack: []api.Value{txt("low")}, Accs: []api.Acc{begun(api.FnSum)}})
		steps(t, f, 1)
		standing(t, f, api.Frame{At: 3, Steps: 3, Stack: []api.Value{txt("low")}, Accs: []api.Acc{begun(api.FnSum), begun(sig.Id)}})
		steps(t, f, 1)
		standing(t, f, api.Frame{At: 4, Steps: 4, Stack: []api.Value{txt("low"), fold.Result()}, Accs: []api.Acc{begun(api.FnSum)}})
	}
}

func TestFeed(t *testing.T) { // Promise 9.3: the top value is taken off and fed to the top fold; a Text that is a number is taken, unlike a cell's.
	l := []api.Ins{push(n(1)), open(api.FnSum), push(txt("2")), feed(), feed(), shut(), store()}
	f := begin(t, l...)
	steps(t, f, 4)
	sum := begun(api.FnSum)
	sum.Num.N = 2
	standing(t, f, api.Frame{At: 4, Steps: 4, Stack: []api.Value{n(1)}, Accs: []api.Acc{sum}})
	steps(t, f, 1)
	sum.Num.N = 3
	standing(t, f, api.Frame{At: 5, Steps: 5, Accs: []api.Acc{sum}})
	// A full one takes nothing more; the value is taken off.
	l = []api.Ins{open(api.FnFirst), push(n(1)), feed(), push(n(2)), feed(), shut(), store()}
	comes(t, l, nil, n(1), 7)
	comes(t, flat(t, `SUM("2",A1:A2)`), cells{"A1": txt("2"), "A2": n(3)}, n(5), 7, "A1", "A2")
}

func TestScansToTheLastCell(t *testing.T) { // Promise 9.3: v as a Cell, one cell more passed; left when all cells were passed.
	f := begin(t, open(api.FnCountA), scan(area("B2:C3")), scan(area("A1:A1")), shut(), store())
	steps(t, f, 1)
	for i, name := range []string{"B2", "C2", "B3", "C3"} {
		scanning(t, f, name, i, 4-i)
		wants(t, f, name)
		step(t, f, n(i))
	}
	counted := begun(api.FnCountA)
	counted.Count = 4
	standing(t, f, api.Frame{At: 2, Steps: 5, Accs: []api.Acc{counted}})
	scanning(t, f, "A1", 0, 1)
	step(t, f, blank)
	standing(t, f, api.Frame{At: 3, Steps: 6, Accs: []api.Acc{counted}})
	steps(t, f, 2)
	if r, _ := f.Result(); r != n(4) {
		t.Fatal(r)
	}
}

func TestScansLeftEarly(t *testing.T) { // Promise 9.3: the instruction is left, if the fold is Full then.
	comes(t, flat(t, "AND(A1:A9)"), cells{"A1": n(1), "A2": truth(false)}, truth(false), 5, "A1", "A2")
	comes(t, flat(t, "OR(A1:A9)"), cells{"A1": txt("x"), "A3": n(1)}, truth(true), 6, "A1", "A2", "A3")
	comes(t, flat(t, "FIRST(A1:A9)"), cells{"A1": n(1)}, n(1), 4, "A1")
	comes(t, flat(t, "FIRST(A1:A9,B1:B9,7)"), cells{"A2": n(1)}, n(1), 8, "A1", "A2")
	comes(t, flat(t, "MATCH(2,A1:A3)"), cells{"A3": n(2)}, n(3), 8, "A1", "A2", "A3") // Full at the last cell
	comes(t, flat(t, "MATCH(2,A1:A3)"), nil, bad(api.FaultNA), 8, "A1", "A2", "A3")
	comes(t, flat(t, "MATCH(NA(),A1:A3)"), nil, bad(api.FaultNA), 6) // Full ahead of it
	comes(t, flat(t, "COUNTIF(A1:A3,NA())"), nil, bad(api.FaultNA), 6)
	comes(t, flat(t, "SUM(1/0,A1:A3)"), nil, bad(api.FaultDiv), 8)
	comes(t, flat(t, "CONCAT(A1:A3)"), cells{"A1": txt(strings.Repeat("x", 200)), "A2": txt(strings.Repeat("y", 200))}, bad(api.FaultLong), 5, "A1", "A2")
	comes(t, flat(t, "SUM(SUM(A1:A2),B1:B2)"), cells{"A1": bad(api.FaultNA)}, bad(api.FaultNA), 8, "A1")
}

func TestScansOfPairs(t *testing.T) { // Promise 9.3: v as a Pair where one is wanted; left behind the last cell's partner.
	two := flat(t, "SUMPRODUCT(A1:A2,B1:B2)")
	comes(t, two, cells{"A1": n(2), "B1": n(3), "A2": n(5), "B2": n(7)}, n(41), 7, "A1", "B1", "A2", "B2")
	comes(t, two, cells{"A1": n(2), "B1": txt("x"), "A2": txt("5"), "B2": n(7)}, n(0), 6, "A1", "B1", "A2")
	comes(t, two, cells{"A1": n(2), "B1": bad(api.FaultNA), "A2": n(1)}, bad(api.FaultNA), 5, "A1", "B1")
	comes(t, two, cells{"A1": n(2), "A2": bad(api.FaultNA)}, bad(api.FaultNA), 6, "A1", "B1", "A2")
	comes(t, two, nil, n(0), 5, "A1", "A2")
	look := flat(t, "LOOKUP(1,A1:A2,B1:B2)")
	comes(t, look, cells{"A1": n(1), "B1": bad(api.FaultNum), "A2": n(1)}, bad(api.FaultNum), 7, "A1", "B1")
	comes(t, look, cells{"A2": n(1)}, blank, 8, "A1", "A2", "B2")
	comes(t, flat(t, "SUMIF(A1:A2,1)"), cells{"A1": n(1), "A2": n(1)}, n(2), 9, "A1", "A1", "A2", "A2")
	comes(t, flat(t, `SUMIF(A1:A2,">1",B1:B2)`), cells{"A1": n(1), "A2": n(2), "B2": n(api.MaxNum)}, n(api.MaxNum), 8, "A1", "A2", "B2")
	// Two scans of one search, and none at all.
	l := []api.Ins{open(api.FnSumProduct), scan2(area("A1:A1"), area("B1:B1")), scan2(area("A2:A2"), area("B2:B2")), shut(), store()}
	comes(t, l, cells{"A1": n(2), "B1": n(3), "A2": n(5), "B2": n(7)}, n(41), 7, "A1", "B1", "A2", "B2")
	// A needle behind the scan comes too late.
	l = []api.Ins{open(api.FnLookup), scan2(area("A1:A2"), area("B1:B2")), push(n(0)), feed(), shut(), store()}
	comes(t, l, cells{"A1": n(0)}, bad(api.FaultNA), 7, "A1", "A2")
}

func TestStateInPairs(t *testing.T) { // Promises 9.3, 9.5: Scans counts cells, not their partners.
	f := begin(t, flat(t, "SUMPRODUCT(A1:A2,B1:B2)")...)
	steps(t, f, 1)
	acc := begun(api.FnSumProduct)
	for i, x := range []struct {
		v           api.Value
		num, held   api.Num
		scans, left int
		wants       bool
	}{
		{n(2), api.Num{D: 1}, api.Num{N: 2, D: 1}, 1, 1, true}, {n(3), api.Num{N: 6, D: 1}, api.Num{}, 1, 1, false},
		{n(5), api.Num{N: 6, D: 1}, api.Num{N: 5, D: 1}, 2, 0, true},
	} {
		step(t, f, x.v)
		acc.Num, acc.Held, acc.Wants = x.num, x.held, x.wants
		standing(t, f, api.Frame{At: 1, Steps: i + 2, Accs: []api.Acc{acc}, Scans: x.scans})
		scanning(t, f, []string{"A2", "A2", ""}[i], x.scans, x.left)
	}
	wants(t, f, "B2")
	step(t, f, n(7))
	acc.Num, acc.Held, acc.Wants = api.Num{N: 41, D: 1}, api.Num{}, false
	standing(t, f, api.Frame{At: 2, Steps: 5, Accs: []api.Acc{acc}})
}

func TestBranches(t *testing.T) { // Promise 9.3, InsBranch: the value as a truth, each way.
	l := flat(t, "IF(A1,7,8)")
	for _, v := range []api.Value{truth(true), n(1), n(-1), part(1, 3), txt("TRUE")} {
		comes(t, l, cells{"A1": v}, n(7), 5, "A1")
	}
	for _, v := range []api.Value{truth(false), n(0), blank, txt("FALSE")} {
		comes(t, l, cells{"A1": v}, n(8), 4, "A1")
	}
	for _, v := range []api.Value{txt("x"), txt(""), txt("true"), txt("1"), bad(api.FaultValue), {Kind: 7}} {
		comes(t, l, cells{"A1": v}, bad(api.FaultValue), 3, "A1")
	}
	comes(t, l, cells{"A1": bad(api.FaultRef)}, bad(api.FaultRef), 3, "A1")
	// What is there behind each way, with a value below.
	l = []api.Ins{push(txt("low")), load(at("A1")), branch(5, 6), push(n(7)), jump(6), push(n(8)), bin(api.OpJoin), store()}
	for _, x := range []struct {
		v    api.Value
		want api.Frame
	}{
		{n(1), api.Frame{At: 3, Steps: 3, Stack: []api.Value{txt("low")}}}, {n(0), api.Frame{At: 5, Steps: 3, Stack: []api.Value{txt("low")}}},
		{txt("x"), api.Frame{At: 6, Steps: 3, Stack: []api.Value{txt("low"), bad(api.FaultValue)}}}, {bad(api.FaultNA), api.Frame{At: 6, Steps: 3, Stack: []api.Value{txt("low"), bad(api.FaultNA)}}},
	} {
		f := begin(t, l...)
		step(t, f, blank, x.v, blank)
		standing(t, f, x.want)
	}
}

func TestJumps(t *testing.T) { // Promise 9.3, InsJump: A comes; it is a step.
	f := begin(t, push(n(1)), choose(6, 2, 4), push(n(1)), jump(5), push(n(2)), jump(6), store())
	steps(t, f, 3)
	standing(t, f, api.Frame{At: 3, Steps: 3, Stack: []api.Value{n(1)}})
	steps(t, f, 1)
	standing(t, f, api.Frame{At: 5, Steps: 4, Stack: []api.Value{n(1)}})
	steps(t, f, 1)
	standing(t, f, api.Frame{At: 6, Steps: 5, Stack: []api.Value{n(1)}})
}

func TestGuards(t *testing.T) { // Promise 9.3, InsGuard: of a Fault it is taken off; else A comes.
	l := []api.Ins{push(txt("low")), load(at("A1")), guard(4), push(n(8)), bin(api.OpJoin), store()}
	for _, v := range []api.Value{n(3), blank, txt("x"), truth(false), txt("#N/A")} {
		f := begin(t, l...)
		step(t, f, blank, v, blank)
		standing(t, f, api.Frame{At: 4, Steps: 3, Stack: []api.Value{txt("low"), v}})
	}
	for code := api.FaultDiv; code <= api.FaultArg; code++ {
		f := begin(t, l...)
		step(t, f, blank, bad(code), blank)
		standing(t, f, api.Frame{At: 3, Steps: 3, Stack: []api.Value{txt("low")}})
		comes(t, flat(t, "IFERROR(A1,2)"), cells{"A1": bad(code)}, n(2), 4, "A1")
	}
}

func TestChoices(t *testing.T) { // Promise 9.3, InsChoose: the k-th place of To; #ARG!; the fault.
	l := []api.Ins{push(txt("low")), load(at("A1")), choose(9, 5, 3, 8), push(n(3)), jump(9), push(n(5)), un(api.OpPlus), jump(9), push(n(8)), bin(api.OpJoin), store()}
	for _, x := range []struct {
		v    api.Value
		at   int
		left api.Value
	}{
		{n(1), 5, blank}, {n(2), 3, blank}, {n(3), 8, blank}, {txt("2"), 3, blank}, {truth(true), 5, blank}, {txt("6/2"), 8, blank}, {txt("1.50"), 9, bad(api.FaultArg)},
		{n(0), 9, bad(api.FaultArg)}, {n(4), 9, bad(api.FaultArg)}, {n(-1), 9, bad(api.FaultArg)}, {n(api.MaxNum), 9, bad(api.FaultArg)}, {n(-api.MaxNum), 9, bad(api.FaultArg)}, {part(3, 2), 9, bad(api.FaultArg)}, {part(1, 2), 9, bad(api.FaultArg)},
		{blank, 9, bad(api.FaultArg)}, {truth(false), 9, bad(api.FaultArg)}, {txt("4"), 9, bad(api.FaultArg)}, {txt("x"), 9, bad(api.FaultValue)}, {txt(""), 9, bad(api.FaultValue)}, {bad(api.FaultNA), 9, bad(api.FaultNA)},
	} {
		f := begin(t, l...)
		step(t, f, blank, x.v, blank)
		want := api.Frame{At: x.at, Steps: 3, Stack: []api.Value{txt("low")}}
		if x.left != blank {
			want.Stack = append(want.Stack, x.left)
		}
		standing(t, f, want)
	}
}

func TestManyChoices(t *testing.T) { // Promise 9.3: each of MaxArgs places, and one past them; places may be the same.
	var to []int
	l := []api.Ins{load(at("A1")), {}}
	for k := range api.MaxArgs {
		to = append(to, len(l))
		l = append(l, push(n(100+k)))
		if k < api.MaxArgs-1 {
			l = append(l, jump(2*api.MaxArgs+1))
		}
	}
	l = append(l, store())
	l[1] = choose(len(l)-1, to...)
	for k := range api.MaxArgs {
		steps := 5
		if k == api.MaxArgs-1 {
			steps = 4
		}
		comes(t, l, cells{"A1": n(k + 1)}, n(100+k), steps, "A1")
	}
	comes(t, l, cells{"A1": n(api.MaxArgs + 1)}, bad(api.FaultArg), 3, "A1")
	comes(t, l, nil, bad(api.FaultArg), 3, "A1")
	twice := []api.Ins{load(at("A1")), choose(3, 2, 2), push(n(7)), store()}
	comes(t, twice, cells{"A1": n(1)}, n(7), 4, "A1")
	comes(t, twice, cells{"A1": n(2)}, n(7), 4, "A1")
	comes(t, twice, cells{"A1": n(3)}, bad(api.FaultArg), 3, "A1")
}

func TestStoreEnds(t *testing.T) { // Promises 9.3, 9.4: the frame is done; its result is the top value, which stays; no step more.
	for _, v := range []api.Value{blank, n(4), txt("x"), truth(false), bad(api.FaultNA)} {
		f := begin(t, push(v), store())
		steps(t, f, 2)
		want := api.Frame{At: 1, Steps: 2, Stack: []api.Value{v}, Done: true}
		for range 3 {
			standing(t, f, want)
			stacked(t, f, v)
			unscanned(t, f)
			wantsNone(t, f)
			if r, ok := f.Result(); !f.Done() || !ok || r != v || f.Steps() != 2 {
				t.Fatal("Result", r, ok, "Steps", f.Steps(), "Done", f.Done())
			}
			if f.Step(n(9)) {
				t.Fatal("a step of a frame that is done")
			}
		}
	}
}

func TestScansIsNoughtWhereItIsComeTo(t *testing.T) { // Promise 9.3: at a second scan, too, behind one that was left early or not.
	for _, v := range []cells{{}, {"A1": n(1)}, {"A2": n(1)}, {"A3": n(1)}} {
		f := begin(t, flat(t, "FIRST(A1:A3,B1:B2)")...)
		at := 0
		for !f.Done() {
			s := f.State()
			if s.At != at && s.Scans != 0 || f.Passed() != s.Scans {
				t.Fatalf("it comes to %d with %d passed", s.At, s.Scans)
			}
			at = s.At
			var x api.Value
			if c, ok := f.Wants(); ok && c.Col == 0 {
				x = v["A"+string(rune('1'+c.Row))]
			}
			step(t, f, x)
		}
	}
}
