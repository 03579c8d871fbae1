package tree

import (
	"fmt"
	"math"
	"slices"
	"strings"
	"testing"

	"whittle/api"
)

// sample is a formula as the tests write it: a node, and its parts.
type sample struct {
	node api.Node
	of   []sample
}

// row lays a sample out by the document's words: the node, and behind it its parts.
func (x sample) row() []api.Node {
	l := []api.Node{x.node}
	for _, inner := range x.of {
		l = append(l, inner.row()...)
	}
	return l
}

func (x sample) deep() int {
	deepest := 0
	for _, inner := range x.of {
		deepest = max(deepest, inner.deep())
	}
	return 1 + deepest
}

func val(v api.Value) sample { return sample{node: api.Node{Kind: api.NodeValue, V: v}} }

func frac(n, d int) sample {
	return val(api.Value{Kind: api.Number, Num: api.Num{N: n, D: d}})
}

func n(x int) sample { return frac(x, 1) }

func txt(s string) sample { return val(api.Value{Kind: api.Text, Text: s}) }

func truth(b bool) sample { return val(api.Value{Kind: api.Truth, True: b}) }

func fault(code int) sample { return val(api.Value{Kind: api.Fault, Fault: code}) }

func at(row, col int) api.Ref { return api.Ref{Row: row, Col: col} }

func on(sheet string, row, col int) api.Ref { return api.Ref{Sheet: sheet, Row: row, Col: col} }

func cell(r api.Ref) sample { return sample{node: api.Node{Kind: api.NodeCell, A: r}} }

func area(a, b api.Ref) sample { return sample{node: api.Node{Kind: api.NodeArea, A: a, B: b}} }

func un(op int, x sample) sample {
	return sample{api.Node{Kind: api.NodeUn, Op: op}, []sample{x}}
}

func bin(op int, x, y sample) sample {
	return sample{api.Node{Kind: api.NodeBin, Op: op}, []sample{x, y}}
}

func call(name string, args ...sample) sample {
	return sample{api.Node{Kind: api.NodeCall, Name: name, Args: len(args)}, args}
}

func neg(x sample) sample { return un(api.OpNeg, x) }

func percent(x sample) sample { return un(api.OpPercent, x) }

// times does something to a sample again and again.
func times(k int, f func(sample) sample, x sample) sample {
	for range k {
		x = f(x)
	}
	return x
}

// many are so many times 1.
func many(k int) []sample { return slices.Repeat([]sample{n(1)}, k) }

// balanced is a sample of so many nodes that is no deeper than it must be.
func balanced(nodes int) sample {
	if nodes == 1 {
		return n(1)
	}
	if nodes%2 == 0 {
		return neg(balanced(nodes - 1))
	}
	left := (nodes - 1) / 2
	return bin(api.OpAdd, balanced(left), balanced(nodes-1-left))
}

func unOps() []int { return []int{api.OpNeg, api.OpPlus, api.OpPercent} }

func binOps() []int {
	return []int{api.OpAdd, api.OpSub, api.OpMul, api.OpDiv, api.OpPow, api.OpJoin, api.OpEq, api.OpNe, api.OpLt, api.OpLe, api.OpGt, api.OpGe}
}

// around are numbers from below 0 to beyond a limit, the extremes too.
func around(limit int) []int {
	list := []int{math.MinInt, math.MinInt + 1, -1 << 32, math.MaxInt - 1, math.MaxInt, 1 << 32, 1<<32 + 1}
	for x := -limit - 2; x <= limit+2; x++ {
		list = append(list, x)
	}
	return list
}

// brief is a row in few letters: of each node its Kind, its operation, its number of arguments, and what else is set.
func brief(l []api.Node) string {
	var b strings.Builder
	for _, x := range l {
		if b.Len() > 200 {
			return b.String() + " .."
		}
		rest := x
		rest.Kind, rest.Op, rest.Args = 0, 0, 0
		b.WriteString(fmt.Sprint(" ", x.Kind, ":", x.Op, ":", x.Args))
		if rest != (api.Node{}) {
			b.WriteString(fmt.Sprintf("%.60q", fmt.Sprint(rest)))
		}
	}
	return b.String()
}

// checked holds what Check says of a row; Print must say the same, and Kids tell none where it is refused.
func checked(t *testing.T, l []api.Node, want api.Errno) {
	t.Helper()
	if got := Check(l); got != want {
		t.Fatalf("Check of %s is %d, not %d", brief(l), got, want)
	}
	s, code := Print(l)
	if code != want || (s == "") != (want != api.OK) {
		t.Fatalf("Print of %s is %.80q, %d", brief(l), s, code)
	}
	if want == api.OK {
		return
	}
	for i := range min(len(l), 40) {
		if kids := Kids(l, i); len(kids) != 0 {
			t.Fatalf("Kids at %d of what is refused are %d", i, kids)
		}
	}
}

func okIf(ok bool) api.Errno {
	if ok {
		return api.OK
	}
	return api.ErrTree
}

// Promise 5.1: numbers.
func TestCheckNumbers(t *testing.T) {
	for _, x := range []api.Num{{N: 0, D: 1}, {N: 1, D: 1}, {N: api.MaxNum, D: 1}, {N: 1, D: api.MaxDen}, {N: api.MaxNum - 1, D: 15625}, {N: 999999999999, D: api.MaxDen}, {N: 1, D: 64}, {N: 7, D: 15625}} {
		checked(t, frac(x.N, x.D).row(), api.OK)
	}
	for d := 1; d <= 4000; d++ {
		checked(t, frac(1, d).row(), okIf(1000000%d == 0))
		checked(t, frac(-1, d).row(), api.ErrTree)
	}
	for _, x := range []api.Num{{}, {N: 0, D: 2}, {N: 2, D: 4}, {N: 5, D: 5}, {N: 10, D: 4}, {N: 1, D: -1}, {N: -1, D: -1}, {N: 1, D: 0}, {N: api.MaxNum + 1, D: 1}, {N: -api.MaxNum, D: 1}, {N: 1, D: 2 * api.MaxDen}, {N: 1, D: 999999}, {N: 1, D: math.MaxInt}, {N: 1, D: math.MinInt}, {N: math.MaxInt, D: 1}, {N: math.MinInt, D: 1}, {N: -1, D: 64}} {
		checked(t, frac(x.N, x.D).row(), api.ErrTree)
	}
}

// Promise 5.1: texts, truths, faults.
func TestCheckValues(t *testing.T) {
	for _, length := range []int{0, 1, api.MaxText - 1, api.MaxText, api.MaxText + 1, 5000} {
		checked(t, txt(strings.Repeat("x", length)).row(), okIf(length <= api.MaxText))
		checked(t, txt(strings.Repeat(`"`, length)).row(), okIf(length <= api.MaxText))
	}
	for b := range 256 {
		s := string([]byte{byte(b)})
		for _, s := range []string{s, "a" + s, s + "a"} {
			checked(t, txt(s).row(), okIf(b >= 32 && b <= 126))
		}
	}
	checked(t, truth(true).row(), api.OK)
	checked(t, truth(false).row(), api.OK)
	for _, code := range around(12) {
		checked(t, fault(code).row(), okIf(code >= api.FaultDiv && code <= api.FaultArg))
	}
}

// Promise 5.1: Blank is no formula, nor is what is no value.
func TestCheckNoValues(t *testing.T) {
	for _, kind := range around(6) {
		checked(t, val(api.Value{Kind: kind}).row(), okIf(kind == api.Text || kind == api.Truth))
	}
	for _, v := range []api.Value{
		{Kind: api.Number, Num: api.Num{N: 1, D: 1}, Text: "1"}, {Kind: api.Number, Num: api.Num{N: 1, D: 1}, True: true}, {Kind: api.Number, Num: api.Num{N: 1, D: 1}, Fault: 1},
		{Kind: api.Text, Text: "a", Num: api.Num{N: 0, D: 1}}, {Kind: api.Text, True: true}, {Kind: api.Text, Fault: 1},
		{Kind: api.Truth, Num: api.Num{D: 1}}, {Kind: api.Truth, Text: "a"}, {Kind: api.Truth, Fault: 1},
		{Kind: api.Fault, Fault: 1, Num: api.Num{D: 1}}, {Kind: api.Fault, Fault: 1, Text: "a"}, {Kind: api.Fault, Fault: 1, True: true},
	} {
		checked(t, val(v).row(), api.ErrTree)
	}
}

// Promise 5.1: rows and columns.
func TestCheckPlaces(t *testing.T) {
	for _, row := range []int{math.MinInt, -1, 0, 1, api.MaxRows - 1, api.MaxRows, math.MaxInt} {
		for _, col := range []int{math.MinInt, -1, 0, 1, api.MaxCols - 1, api.MaxCols, math.MaxInt} {
			for _, fixed := range []bool{false, true} {
				r := api.Ref{Row: row, Col: col, FixRow: fixed, FixCol: !fixed}
				want := okIf(row >= 0 && row < api.MaxRows && col >= 0 && col < api.MaxCols)
				checked(t, cell(r).row(), want)
				checked(t, area(r, at(3, 3)).row(), want)
				checked(t, area(at(3, 3), r).row(), want)
				checked(t, area(on("S", 3, 3), r).row(), want)
			}
		}
	}
}

// rightName: is it a name, by the document's words, of those letters?
func rightName(s, letters string) bool {
	return len(s) >= 1 && len(s) <= 16 && strings.Contains(letters, s[:1]) && strings.Trim(s, letters+"0123456789") == ""
}

const (
	capitals = "ABCDEFGHIJKLMNOPQRSTUVWXYZ"
	smalls   = "abcdefghijklmnopqrstuvwxyz"
)

// names are texts that are names of functions, of sheets alone, or of none.
func names() []string {
	list := []string{"", " ", "A ", " A", "A B", "A_B", "A.B", "A!", "(", "T-1", "1", "12", "1A", "A1", "a1", "Aa", "aA", "TRUE", "FALSE", "true", "SUM", "SuM", "$A", "A$", "A$1", "\u00c4", "A\u00c4", "A\n", "A\x00", "'A'", "[A]", "A9Z0", "a9z0", "Z0123456789ABCDE", "0ABCDEFGHIJKLMNO"}
	for _, length := range []int{1, 2, api.MaxName - 1, api.MaxName, api.MaxName + 1, api.MaxName + 2, 1000} {
		list = append(list, strings.Repeat("Q", length), strings.Repeat("q", length), "Q"+strings.Repeat("7", length-1), strings.Repeat("7", length))
	}
	for b := range 256 {
		s := string([]byte{byte(b)})
		list = append(list, s, "Q"+s, "Q"+s+"Q", "q7"+s)
	}
	return list
}

// Promise 5.1: names of sheets and of functions.
func TestCheckNames(t *testing.T) {
	for _, s := range names() {
		checked(t, call(s).row(), okIf(rightName(s, capitals)))
		checked(t, call(s, n(1)).row(), okIf(rightName(s, capitals)))
		sheet := okIf(s == "" || rightName(s, capitals+smalls))
		checked(t, cell(on(s, 1, 1)).row(), sheet)
		checked(t, area(on(s, 1, 1), at(0, 0)).row(), sheet)
		checked(t, area(at(1, 1), on(s, 0, 0)).row(), okIf(s == ""))
		checked(t, area(on("S", 1, 1), on(s, 0, 0)).row(), okIf(s == ""))
	}
}

// Promise 5.1: operations of one and of two.
func TestCheckOps(t *testing.T) {
	for _, op := range around(40) {
		checked(t, un(op, n(1)).row(), okIf(slices.Contains(unOps(), op)))
		checked(t, bin(op, n(1), n(2)).row(), okIf(slices.Contains(binOps(), op)))
	}
}

// Promise 5.1: a Kind that there is not, whatever else is set.
func TestCheckKinds(t *testing.T) {
	for _, kind := range around(9) {
		if kind >= api.NodeValue && kind <= api.NodeCall {
			continue
		}
		for _, node := range []api.Node{{}, n(1).node, cell(at(1, 1)).node, neg(n(1)).node, bin(api.OpAdd, n(1), n(2)).node, call("F").node} {
			node.Kind = kind
			checked(t, []api.Node{node}, api.ErrTree)
			checked(t, []api.Node{node, n(1).node}, api.ErrTree)
			checked(t, append(neg(n(1)).row()[:1], node), api.ErrTree)
		}
	}
}

// more sets one field each; own says of which Kinds the field is.
var more = []struct {
	own []int
	set func(*api.Node)
}{
	{[]int{api.NodeValue}, func(x *api.Node) { x.V.Kind = api.Truth }},
	{[]int{api.NodeValue}, func(x *api.Node) { x.V.Kind = -1 }},
	{[]int{api.NodeValue}, func(x *api.Node) { x.V.Num.D = 1 }},
	{[]int{api.NodeValue}, func(x *api.Node) { x.V.Num.N = 1 }},
	{[]int{api.NodeValue}, func(x *api.Node) { x.V.Text = "x" }},
	{[]int{api.NodeValue}, func(x *api.Node) { x.V.True = true }},
	{[]int{api.NodeValue}, func(x *api.Node) { x.V.Fault = 1 }},
	{[]int{api.NodeUn, api.NodeBin}, func(x *api.Node) { x.Op = api.OpNeg }},
	{[]int{api.NodeUn, api.NodeBin}, func(x *api.Node) { x.Op = api.OpAdd }},
	{[]int{api.NodeUn, api.NodeBin}, func(x *api.Node) { x.Op = -1 }},
	{[]int{api.NodeCall}, func(x *api.Node) { x.Name = "F" }},
	{[]int{api.NodeCall}, func(x *api.Node) { x.Name = " " }},
	{[]int{api.NodeCall}, func(x *api.Node) { x.Args = 1 }},
	{[]int{api.NodeCall}, func(x *api.Node) { x.Args = 2 }},
	{[]int{api.NodeCall}, func(x *api.Node) { x.Args = -1 }},
	{[]int{api.NodeCell, api.NodeArea}, func(x *api.Node) { x.A.Sheet = "S" }},
	{[]int{api.NodeCell, api.NodeArea}, func(x *api.Node) { x.A.Row = 1 }},
	{[]int{api.NodeCell, api.NodeArea}, func(x *api.Node) { x.A.Col = 1 }},
	{[]int{api.NodeCell, api.NodeArea}, func(x *api.Node) { x.A.FixRow = true }},
	{[]int{api.NodeCell, api.NodeArea}, func(x *api.Node) { x.A.FixCol = true }},
	{[]int{}, func(x *api.Node) { x.B.Sheet = "S" }},
	{[]int{api.NodeArea}, func(x *api.Node) { x.B.Row = 1 }},
	{[]int{api.NodeArea}, func(x *api.Node) { x.B.Col = 1 }},
	{[]int{api.NodeArea}, func(x *api.Node) { x.B.FixRow = true }},
	{[]int{api.NodeArea}, func(x *api.Node) { x.B.FixCol = true }},
}

// kinds is one right sample of each Kind, by the Kinds' order.
func kinds() []sample {
	return []sample{txt(""), cell(at(0, 0)), area(at(0, 0), at(0, 0)), neg(n(1)), bin(api.OpAdd, n(1), n(2)), call("F"), call("F", n(1)), call("F", n(1), n(2))}
}

// Promise 5.1: fields that the Kind does not have are zero.
func TestCheckOtherFields(t *testing.T) {
	for _, x := range kinds() {
		for i, m := range more {
			if slices.Contains(m.own, x.node.Kind) {
				continue
			}
			l := x.row()
			m.set(&l[0])
			if got := Check(l); got != api.ErrTree {
				t.Errorf("Check of Kind %d with field %d is %d", x.node.Kind, i, got)
			}
			checked(t, append([]api.Node{neg(n(1)).node}, l...), api.ErrTree)
			checked(t, append(call("G", n(1), n(2)).row()[:2], l...), api.ErrTree)
		}
	}
}

// Promises 5.1, 5.2: as many parts as there must be.
func TestCheckParts(t *testing.T) {
	checked(t, nil, api.ErrTree)
	checked(t, []api.Node{}, api.ErrTree)
	for _, x := range append(kinds(), call("F", many(29)...), call("F", many(30)...), balanced(37)) {
		l := x.row()
		checked(t, l, api.OK)
		checked(t, append(slices.Clone(l), n(1).node), api.ErrTree)
		checked(t, append(slices.Clone(l), cell(at(0, 0)).node), api.ErrTree)
		checked(t, append(slices.Clone(l), l...), api.ErrTree)
		checked(t, append(slices.Clone(l), api.Node{}), api.ErrTree)
		for k := range l {
			checked(t, l[:k], api.ErrTree)
		}
	}
}

// Promise 5.1: a call has 0 to MaxArgs arguments.
func TestCheckArgs(t *testing.T) {
	for k := range api.MaxArgs + 4 {
		checked(t, call("F", many(k)...).row(), okIf(k <= api.MaxArgs))
	}
	for _, args := range []int{math.MinInt, math.MinInt + 1, -30, -1, 31, 32, 256, 1 << 32, 1<<32 + 1, math.MaxInt} {
		for k := range 34 {
			l := call("F", many(k)...).row()
			l[0].Args = args
			checked(t, l, okIf(args == k && k <= api.MaxArgs))
		}
	}
}

// Promise 5.2: the most nodes, and one more.
func TestCheckNodes(t *testing.T) {
	checked(t, balanced(api.MaxNodes-1).row(), api.OK)
	checked(t, balanced(api.MaxNodes).row(), api.OK)
	checked(t, balanced(api.MaxNodes+1).row(), api.ErrNodes)
	checked(t, balanced(3*api.MaxNodes).row(), api.ErrNodes)
	checked(t, make([]api.Node, api.MaxNodes), api.ErrTree)
	checked(t, make([]api.Node, api.MaxNodes+1), api.ErrNodes)
	checked(t, make([]api.Node, 1<<16), api.ErrNodes)
	checked(t, times(api.MaxNodes-1, neg, n(1)).row(), api.ErrDeep)
	checked(t, times(api.MaxNodes, neg, n(1)).row(), api.ErrNodes)
	checked(t, append(balanced(api.MaxNodes).row(), api.Node{}), api.ErrNodes)
	checked(t, append(balanced(api.MaxNodes-1).row(), api.Node{}), api.ErrTree)
	checked(t, balanced(api.MaxNodes + 1).row()[:api.MaxNodes], api.ErrTree)
}

// deeper are ways in which a formula gets one deeper.
func deeper() []func(sample) sample {
	return []func(sample) sample{
		neg, percent,
		func(x sample) sample { return bin(api.OpPow, x, n(1)) },
		func(x sample) sample { return bin(api.OpEq, n(1), x) },
		func(x sample) sample { return call("F", x) },
		func(x sample) sample { return call("F", x, n(1), n(2)) },
		func(x sample) sample { return call("F", n(1), n(2), x) },
		func(x sample) sample { return call("F", n(1), x, n(2)) },
	}
}

// Promise 5.2: as deep as may be, and one deeper.
func TestCheckDeep(t *testing.T) {
	for _, f := range deeper() {
		for _, leaf := range []sample{n(1), cell(at(0, 0)), area(at(0, 0), at(1, 1)), call("G")} {
			checked(t, times(api.MaxDeep-1, f, leaf).row(), api.OK)
			checked(t, times(api.MaxDeep, f, leaf).row(), api.ErrDeep)
			checked(t, times(api.MaxDeep+7, f, leaf).row(), api.ErrDeep)
			checked(t, bin(api.OpAdd, times(api.MaxDeep-2, f, leaf), times(api.MaxDeep-2, f, leaf)).row(), api.OK)
			checked(t, bin(api.OpAdd, times(api.MaxDeep-1, f, leaf), leaf).row(), api.ErrDeep)
			checked(t, bin(api.OpAdd, leaf, times(api.MaxDeep-1, f, leaf)).row(), api.ErrDeep)
		}
		tooDeep := times(api.MaxDeep, f, n(1)).row()
		checked(t, append(slices.Clone(tooDeep), n(1).node), api.ErrTree)
		checked(t, tooDeep[:len(tooDeep)-1], api.ErrTree)
		checked(t, times(api.MaxDeep, f, n(-1)).row(), api.ErrTree)
	}
}

// kidsOf are where the parts of each node of a sample begin, by how many nodes each part has.
func kidsOf(x sample, from int) [][]int {
	list := [][]int{nil}
	next := from + 1
	for _, inner := range x.of {
		list[0] = append(list[0], next)
		list = append(list, kidsOf(inner, next)...)
		next += len(inner.row())
	}
	return list
}

// Promise 5.2: Kids of each node, and of numbers that are none's.
func TestKids(t *testing.T) {
	samples := append(kinds(), balanced(api.MaxNodes), call("F", many(api.MaxArgs)...), call("F", neg(n(1)), call("G"), bin(api.OpAdd, n(1), call("H", n(2), percent(n(3))))))
	for _, f := range deeper() {
		samples = append(samples, times(9, f, n(1)), times(api.MaxDeep-1, f, n(1)), bin(api.OpSub, times(5, f, n(1)), times(6, f, call("G"))))
	}
	for _, x := range append(samples, trees(2, unOps(), binOps())...) {
		l := x.row()
		for i, want := range kidsOf(x, 0) {
			if got := Kids(l, i); !slices.Equal(got, want) {
				t.Fatalf("Kids at %d of %s are %d, not %d", i, brief(l), got, want)
			}
		}
		for _, i := range []int{math.MinInt, -len(l), -2, -1, len(l), len(l) + 1, math.MaxInt} {
			if got := Kids(l, i); len(got) != 0 {
				t.Fatalf("Kids at %d of %s are %d", i, brief(l), got)
			}
		}
	}
	if got := Kids(nil, 0); len(got) != 0 {
		t.Error("Kids of no row are", got)
	}
}

// Rule R3: what is handed in stays as it is, its spare room too.
func TestRowsAreKept(t *testing.T) {
	room := append(call("F", neg(n(1)), bin(api.OpAdd, txt("x"), n(3))).row(), api.Node{Kind: 77, Name: "spare"}, api.Node{Kind: 78})
	before := slices.Clone(room)
	l := room[:len(room)-2]
	if code := Check(l); code != api.OK {
		t.Error("Check is", code)
	}
	if s, code := Print(l); s != `F(-1,"x"+3)` || code != api.OK {
		t.Error("Print is", s, code)
	}
	if kids := Kids(l, 0); !slices.Equal(kids, []int{1, 3}) {
		t.Error("Kids are", kids)
	}
	if !slices.Equal(room, before) {
		t.Error("the row has become", brief(room))
	}
}

// Rule R3: what is answered is new memory.
func TestAnswersAreNew(t *testing.T) {
	l := call("F", many(3)...).row()
	kids := Kids(l, 0)
	for i := range kids[:cap(kids)] {
		kids[:cap(kids)][i] = -9
	}
	if again := Kids(l, 0); !slices.Equal(again, []int{1, 2, 3}) {
		t.Error("Kids are", again)
	}
	const text = "F(A1,-2%,G(),1+2+3)"
	one, _, _ := Parse(text)
	kept := slices.Clone(one)
	for i := range one[:cap(one)] {
		one[:cap(one)][i] = api.Node{Kind: -9}
	}
	if again, code, _ := Parse(text); !slices.Equal(again, kept) || code != api.OK {
		t.Errorf("Parse is %s, %d", brief(again), code)
	}
}
