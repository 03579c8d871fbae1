package value

import (
	"math"
	"strings"
	"testing"

	"whittle/api"
	"whittle/num"
)

const (
	top    = api.MaxNum
	bottom = api.MaxDen
)

var blank api.Value

func n(x, d int) api.Value { return api.Value{Kind: api.Number, Num: api.Num{N: x, D: d}} }

func txt(s string) api.Value { return api.Value{Kind: api.Text, Text: s} }

func is(b bool) api.Value { return api.Value{Kind: api.Truth, True: b} }

func bad(code int) api.Value { return api.Value{Kind: api.Fault, Fault: code} }

var (
	divide  = bad(api.FaultDiv)
	unfit   = bad(api.FaultNum)
	none    = bad(api.FaultNA)
	lost    = bad(api.FaultRef)
	valued  = bad(api.FaultValue)
	tooLong = bad(api.FaultLong)
)

func same(t *testing.T, got, want api.Value, what ...any) {
	t.Helper()
	if got != want {
		t.Fatal(append(what, "is", got, "and not", want)...)
	}
}

func xs(count int) string { return strings.Repeat("x", count) }

// rights are values that are right: every kind, its edges, and texts that look like something else.
func rights() []api.Value {
	list := []api.Value{blank, is(false), is(true)}
	for _, a := range []api.Value{n(0, 1), n(1, 1), n(-1, 1), n(2, 1), n(100, 1), n(1, 2), n(-1, 2), n(1, 3), n(7, 999983), n(1, bottom), n(-1, bottom), n(top, 1), n(-top, 1), n(top-1, bottom), n(13, 1), n(-13, 1)} {
		list = append(list, a)
	}
	for code := api.FaultDiv; code <= api.FaultArg; code++ {
		list = append(list, bad(code), txt(Show(bad(code))))
	}
	for _, s := range []string{"", " ", "~", "'", "''", "'x", "=", "=A1", "'=A1", "a", "ab", "abc", "b", "Z", "TRUE", "FALSE", "true", "TRUE ", " TRUE", "0", "12", "-0", "007", "2/4", "1/0", "1.50", "1.", " 1", "1 ", "1 2", "+1", "#n/a", "#N/A ", "#", "\"", xs(255), xs(256), strings.Repeat("1", 256), strings.Repeat("0", 255) + "1", "'" + xs(255), "=" + xs(255)} {
		list = append(list, txt(s))
	}
	return list
}

// wrongs are values that are not right, in each way in which one can be so.
func wrongs() []api.Value {
	list := []api.Value{
		n(0, 0), n(2, 4), n(0, 2), n(1, 0), n(1, -1), n(1, bottom+1), n(top+1, 1), n(-top-1, 1), n(math.MinInt, 1), n(math.MaxInt, math.MinInt),
		txt(xs(257)), txt("\x1f"), txt("\x7f"), txt("a\nb"), txt("\x00"), txt("\xff"), txt("é"), txt(xs(255) + "\x1f"),
		bad(0), bad(-1), bad(9), bad(math.MinInt), bad(math.MaxInt),
	}
	for _, kind := range []int{-1, 5, 6, math.MinInt, math.MaxInt} {
		list = append(list, api.Value{Kind: kind})
	}
	for _, v := range []api.Value{blank, n(1, 2), txt("x"), txt(""), is(true), is(false), bad(api.FaultRef)} {
		list = append(list, others(v)...)
	}
	return list
}

// others is v with each of the fields set that are not its kind's.
func others(v api.Value) []api.Value {
	var list []api.Value
	add := func(kind int, set func(w *api.Value)) {
		if kind != v.Kind {
			w := v
			set(&w)
			list = append(list, w)
		}
	}
	add(api.Number, func(w *api.Value) { w.Num = api.Num{N: 0, D: 1} })
	add(api.Number, func(w *api.Value) { w.Num.N = 1 })
	add(api.Text, func(w *api.Value) { w.Text = "y" })
	add(api.Truth, func(w *api.Value) { w.True = true })
	add(api.Fault, func(w *api.Value) { w.Fault = api.FaultNA })
	return list
}

// Promise 2.1: which values are right.
func TestRight(t *testing.T) {
	for _, v := range rights() {
		if !Right(v) {
			t.Fatal("right, and said not to be:", v)
		}
	}
	for _, v := range wrongs() {
		if Right(v) {
			t.Fatal("not right, and said to be:", v)
		}
	}
}

// Promise 2.1: every byte, at every place.
func TestRightBytes(t *testing.T) {
	for b := range 256 {
		want := b >= 32 && b <= 126
		for _, s := range []string{string([]byte{byte(b)}), "ab" + string([]byte{byte(b)}), string([]byte{byte(b)}) + "ab", xs(255) + string([]byte{byte(b)})} {
			if Right(txt(s)) != want {
				t.Fatal("Right of the byte", b)
			}
			if want {
				same(t, Text(s), txt(s), "Text of the byte", b)
			} else {
				same(t, Text(s), valued, "Text of the byte", b)
			}
		}
	}
}

// Promise 2.1: what is not right counts as #VALUE!, in every other call.
func TestNotRightCounts(t *testing.T) {
	for _, w := range wrongs() {
		a, fault := AsNumber(w)
		if a != (api.Num{}) || fault != valued {
			t.Fatal("AsNumber of", w, "is", a, fault)
		}
		s, fault := AsText(w)
		if s != "" || fault != valued {
			t.Fatal("AsText of", w, "is", s, fault)
		}
		b, fault := AsTruth(w)
		if b || fault != valued {
			t.Fatal("AsTruth of", w, "is", b, fault)
		}
		for _, op := range []int{api.OpNeg, api.OpPlus, api.OpPercent} {
			same(t, Un(op, w), valued, "Un", op, w)
		}
		if s := Show(w); s != "#VALUE!" {
			t.Fatal("Show of", w, "is", s)
		}
		same(t, Join(w), valued, "Join", w)
		same(t, Join(txt("a"), w, none), valued, "Join", w)
		for _, v := range append(rights(), wrongs()...) {
			notRightBeside(t, w, v)
		}
	}
}

func notRightBeside(t *testing.T, w, v api.Value) {
	t.Helper()
	for _, op := range ops() {
		same(t, Bin(op, w, v), Bin(op, valued, v), "Bin", op, w, v)
		same(t, Bin(op, v, w), Bin(op, v, valued), "Bin", op, v, w)
	}
	if Cmp(w, v) != Cmp(valued, v) || Cmp(v, w) != Cmp(v, valued) {
		t.Fatal("Cmp of", w, v)
	}
	if Same(w, v) || Same(v, w) {
		t.Fatal("Same of", w, v)
	}
}

func ops() []int {
	return []int{api.OpAdd, api.OpSub, api.OpMul, api.OpDiv, api.OpPow, api.OpJoin, api.OpEq, api.OpNe, api.OpLt, api.OpLe, api.OpGt, api.OpGe}
}

// Promise 2.2: what makes values.
func TestMakers(t *testing.T) {
	same(t, Blank(), blank, "Blank")
	same(t, Truth(true), is(true), "Truth of true")
	same(t, Truth(false), is(false), "Truth of false")
	for _, v := range rights() {
		switch v.Kind {
		case api.Number:
			same(t, Number(v.Num), v, "Number of", v.Num)
		case api.Text:
			same(t, Text(v.Text), v, "Text of", v.Text)
		}
	}
	for _, w := range wrongs() {
		if w.Kind == api.Number && !num.Right(w.Num) {
			same(t, Number(w.Num), n(0, 1), "Number of", w.Num)
		}
	}
}

func TestMakersOfTexts(t *testing.T) {
	same(t, Text(""), txt(""), "the empty Text")
	same(t, Text(xs(256)), txt(xs(256)), "Text of MaxText bytes")
	same(t, Text(xs(257)), tooLong, "Text of one more")
	same(t, Text(xs(100000)), tooLong, "Text of many bytes")
	same(t, Text(xs(300)+"\n"), valued, "Text, too long and with a wrong byte")
	same(t, Text("\x1f"+xs(300)), valued, "Text, too long and with a wrong byte")
	same(t, Text("\x1f"), valued, "Text of byte 31")
	same(t, Text(" "), txt(" "), "Text of byte 32")
	same(t, Text("~"), txt("~"), "Text of byte 126")
	same(t, Text("\x7f"), valued, "Text of byte 127")
	same(t, Text("é"), valued, "Text beyond ASCII")
	same(t, Text("'=1"), txt("'=1"), "Text takes quotes as they are")
}

func TestMakersOfFaults(t *testing.T) {
	for code := api.FaultDiv; code <= api.FaultArg; code++ {
		same(t, Fault(code), bad(code), "Fault", code)
	}
	for _, code := range []int{0, -1, 9, 10, math.MinInt, math.MaxInt} {
		same(t, Fault(code), valued, "Fault", code)
	}
}
