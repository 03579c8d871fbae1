package value

import (
	"math"
	"testing"

	"whittle/api"
	"whittle/num"
)

// noOps are numbers that are no operations: those beside them, those between them, and some far off.
func noOps() []int {
	return []int{math.MinInt, -11, -1, 0, 4, 5, 9, 10, 17, 18, 19, 20, 27, 28, 100, math.MaxInt}
}

// Promise 2.4.
func TestUn(t *testing.T) {
	for _, x := range []struct {
		op      int
		a, want api.Value
	}{
		{api.OpNeg, n(5, 1), n(-5, 1)}, {api.OpNeg, n(-top, 1), n(top, 1)}, {api.OpNeg, n(0, 1), n(0, 1)},
		{api.OpNeg, txt("-1/3"), n(1, 3)}, {api.OpNeg, txt(""), valued}, {api.OpNeg, txt("TRUE"), valued},
		{api.OpNeg, is(true), n(-1, 1)}, {api.OpNeg, is(false), n(0, 1)}, {api.OpNeg, blank, n(0, 1)},
		{api.OpPercent, n(100, 1), n(1, 1)}, {api.OpPercent, n(-50, 1), n(-1, 2)}, {api.OpPercent, n(top, 1), n(top/100, 1)},
		{api.OpPercent, n(1, 10000), n(1, bottom)}, {api.OpPercent, n(1, 10001), unfit}, {api.OpPercent, n(1, bottom), unfit}, {api.OpPercent, n(100, 999983), n(1, 999983)},
		{api.OpPercent, blank, n(0, 1)}, {api.OpPercent, is(true), n(1, 100)}, {api.OpPercent, txt("x"), valued}, {api.OpPercent, txt("5"), n(1, 20)},
		{api.OpPlus, blank, blank}, {api.OpPlus, txt("5"), txt("5")}, {api.OpPlus, is(true), is(true)}, {api.OpPlus, n(-5, 1), n(-5, 1)}, {api.OpPlus, lost, lost},
	} {
		same(t, Un(x.op, x.a), x.want, "Un", x.op, x.a)
	}
	for _, op := range append(noOps(), ops()...) {
		for _, v := range rights() {
			same(t, Un(op, v), valued, "Un of no operation", op, v)
		}
	}
}

// Promise 2.5: what is no operation is #VALUE!, faults or not.
func TestBinOfNone(t *testing.T) {
	for _, op := range append(noOps(), api.OpNeg, api.OpPlus, api.OpPercent) {
		for _, v := range rights() {
			same(t, Bin(op, v, none), valued, "Bin of no operation", op, v)
			same(t, Bin(op, n(1, 1), v), valued, "Bin of no operation", op, v)
		}
	}
}

type two struct {
	a    api.Value
	op   int
	b    api.Value
	want api.Value
}

func (x two) check(t *testing.T) {
	t.Helper()
	same(t, Bin(x.op, x.a, x.b), x.want, "Bin", x.op, x.a, x.b)
}

// Promise 2.5: OpAdd to OpPow.
func TestReckon(t *testing.T) {
	for _, x := range []two{
		{n(1, 3), api.OpAdd, n(1, 6), n(1, 2)}, {txt("1"), api.OpAdd, txt("2"), n(3, 1)}, {blank, api.OpAdd, is(true), n(1, 1)}, {n(top, 1), api.OpAdd, n(1, 1), unfit}, {n(1, 999983), api.OpAdd, n(1, 999979), unfit},
		{n(1, 1), api.OpSub, n(3, 1), n(-2, 1)}, {n(-top, 1), api.OpSub, n(1, 1), unfit}, {blank, api.OpSub, blank, n(0, 1)},
		{n(2, 3), api.OpMul, n(3, 2), n(1, 1)}, {n(top, 1), api.OpMul, n(2, 1), unfit}, {n(top, 1), api.OpMul, blank, n(0, 1)},
		{n(1, 1), api.OpDiv, n(4, 1), n(1, 4)}, {n(4, 1), api.OpDiv, n(1, 4), n(16, 1)}, {n(0, 1), api.OpDiv, n(0, 1), divide}, {n(1, 1), api.OpDiv, blank, divide}, {n(1, 1), api.OpDiv, is(false), divide}, {n(1, 1), api.OpDiv, txt("0"), divide}, {n(1, bottom), api.OpDiv, n(2, 1), unfit}, {n(top, 1), api.OpDiv, n(1, 2), unfit}, {n(0, 1), api.OpDiv, n(5, 1), n(0, 1)},
		{n(2, 1), api.OpPow, n(10, 1), n(1024, 1)}, {n(2, 3), api.OpPow, n(-2, 1), n(9, 4)}, {n(0, 1), api.OpPow, n(0, 1), n(1, 1)}, {blank, api.OpPow, blank, n(1, 1)}, {n(0, 1), api.OpPow, n(5, 1), n(0, 1)}, {n(10, 1), api.OpPow, n(12, 1), n(top, 1)}, {n(10, 1), api.OpPow, n(13, 1), unfit}, {n(10, 1), api.OpPow, n(-7, 1), unfit}, {n(-1, 1), api.OpPow, n(top-1, 1), n(-1, 1)}, {n(-1, 1), api.OpPow, n(-top, 1), n(1, 1)},
		{n(0, 1), api.OpPow, n(-1, 1), divide}, {blank, api.OpPow, n(-top, 1), divide}, {n(0, 1), api.OpPow, n(-1, 2), divide}, {n(0, 1), api.OpPow, n(1, 2), unfit}, {n(1, 1), api.OpPow, n(1, 2), unfit}, {n(4, 1), api.OpPow, n(-1, 2), unfit}, {n(4, 1), api.OpPow, txt("2"), n(16, 1)}, {n(4, 1), api.OpPow, is(true), n(4, 1)},
		{txt("x"), api.OpAdd, n(1, 1), valued}, {txt("x"), api.OpDiv, n(0, 1), valued}, {n(1, 1), api.OpDiv, txt("x"), valued}, {n(0, 1), api.OpPow, txt(""), valued}, {txt("x"), api.OpMul, none, none},
	} {
		x.check(t)
	}
}

// Promise 2.5: all numbers against each other, by chapter 1.
func TestReckonByNum(t *testing.T) {
	list := rights()
	for _, a := range list {
		x, fault := AsNumber(a)
		if fault.Kind == api.Fault {
			continue
		}
		for _, b := range list {
			y, fault := AsNumber(b)
			if fault.Kind == api.Fault {
				continue
			}
			told(t, api.OpAdd, a, b)(num.Add(x, y))
			told(t, api.OpSub, a, b)(num.Sub(x, y))
			told(t, api.OpMul, a, b)(num.Mul(x, y))
			if y.N != 0 {
				told(t, api.OpDiv, a, b)(num.Div(x, y))
			} else {
				same(t, Bin(api.OpDiv, a, b), divide, "by 0", a)
			}
			if k, ok := num.Whole(y); ok && (x.N != 0 || k >= 0) {
				told(t, api.OpPow, a, b)(num.Pow(x, k))
			}
		}
	}
}

func told(t *testing.T, op int, a, b api.Value) func(x api.Num, ok bool) {
	return func(x api.Num, ok bool) {
		want := unfit
		if ok {
			want = n(x.N, x.D)
		}
		same(t, Bin(op, a, b), want, "Bin", op, a, b)
	}
}

// Promise 2.5: OpJoin.
func TestJoinOfTwo(t *testing.T) {
	for _, x := range []two{
		{txt("a"), api.OpJoin, txt("b"), txt("ab")}, {n(1, 2), api.OpJoin, n(1, 3), txt("0.51/3")}, {is(false), api.OpJoin, blank, txt("FALSE")}, {blank, api.OpJoin, blank, txt("")}, {txt("1"), api.OpJoin, txt("2"), txt("12")},
		{txt(xs(255)), api.OpJoin, txt("x"), txt(xs(256))}, {txt(xs(256)), api.OpJoin, txt(""), txt(xs(256))}, {txt(xs(256)), api.OpJoin, blank, txt(xs(256))}, {txt(xs(255)), api.OpJoin, n(10, 1), tooLong}, {txt(xs(256)), api.OpJoin, txt("x"), tooLong}, {txt(xs(256)), api.OpJoin, txt(xs(256)), tooLong}, {txt(xs(256)), api.OpJoin, lost, lost},
	} {
		x.check(t)
	}
}

// Promise 2.5: OpEq to OpGe tell what Cmp tells.
func TestCompare(t *testing.T) {
	list := rights()
	for _, a := range list {
		for _, b := range list {
			if a.Kind == api.Fault || b.Kind == api.Fault {
				continue
			}
			c := Cmp(a, b)
			for op, want := range map[int]bool{api.OpEq: c == 0, api.OpNe: c != 0, api.OpLt: c < 0, api.OpLe: c <= 0, api.OpGt: c > 0, api.OpGe: c >= 0} {
				two{a, op, b, is(want)}.check(t)
			}
		}
	}
}

// Promise 2.8.
func TestJoin(t *testing.T) {
	same(t, Join(), txt(""), "Join of nothing")
	same(t, Join(nil...), txt(""), "Join of no list")
	same(t, Join(blank), txt(""), "Join of a Blank")
	same(t, Join(n(3, 2)), txt("1.5"), "Join of a Number")
	same(t, Join(lost), lost, "Join of a Fault")
	same(t, Join(lost, none), lost, "Join of two Faults")
	same(t, Join(txt(xs(256)), blank, txt("")), txt(xs(256)), "Join up to MaxText")
	same(t, Join(txt(xs(256)), txt("x"), none), tooLong, "Join beyond MaxText, and then a Fault")
	same(t, Join(txt(xs(200)), none, txt(xs(200))), none, "Join of a Fault, and then beyond MaxText")
	same(t, Join(txt("a"), n(2, 4), none), valued, "Join of what is not right")
	many := make([]api.Value, 256)
	for i := range many {
		many[i] = txt("x")
	}
	same(t, Join(many...), txt(xs(256)), "Join of many")
	same(t, Join(append(many, blank, is(true))...), tooLong, "Join of too many")
}

// Promise 2.8 and rule R3: the list is not changed, spare room neither.
func TestJoinLeavesItsList(t *testing.T) {
	list := []api.Value{txt("a"), n(2, 4), none, txt("spare")}
	Join(list[:2]...)
	for i, want := range []api.Value{txt("a"), n(2, 4), none, txt("spare")} {
		same(t, list[i], want, "what was handed in", i)
	}
}

// Promise 2.12.
func TestFaultsStay(t *testing.T) {
	for code := api.FaultDiv; code <= api.FaultArg; code++ {
		for _, v := range rights() {
			for _, op := range ops() {
				same(t, Bin(op, bad(code), v), bad(code), "Bin", op, code, v)
				if v.Kind != api.Fault {
					same(t, Bin(op, v, bad(code)), bad(code), "Bin", op, v, code)
				} else {
					same(t, Bin(op, v, bad(code)), v, "Bin", op, v, code)
				}
			}
		}
		for _, op := range []int{api.OpNeg, api.OpPlus, api.OpPercent} {
			same(t, Un(op, bad(code)), bad(code), "Un", op, code)
		}
	}
}
