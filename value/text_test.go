package value

import (
	"math"
	"strings"
	"testing"

	"whittle/api"
)

// Promise 2.9: what is typed.
func TestRead(t *testing.T) {
	for _, x := range []struct {
		s    string
		want api.Value
	}{
		{"", blank}, {"'", txt("")}, {"''", txt("'")}, {"'12", txt("12")}, {"'TRUE", txt("TRUE")}, {"'#N/A", txt("#N/A")}, {"'=A1", txt("=A1")}, {"'x", txt("x")}, {"x'", txt("x'")},
		{"12", n(12, 1)}, {"-0", n(0, 1)}, {"007", n(7, 1)}, {"1.50", n(3, 2)}, {"2/4", n(1, 2)}, {"1000000000000", n(top, 1)}, {"1000000000001", txt("1000000000001")}, {"1/0", txt("1/0")}, {"+1", txt("+1")}, {" 1", txt(" 1")}, {"1 ", txt("1 ")}, {"1.", txt("1.")}, {strings.Repeat("0", 300) + "5", n(5, 1)},
		{"TRUE", is(true)}, {"FALSE", is(false)}, {"true", txt("true")}, {"False", txt("False")}, {"TRUE ", txt("TRUE ")},
		{"#DIV/0!", bad(1)}, {"#VALUE!", bad(2)}, {"#REF!", bad(3)}, {"#NUM!", bad(4)}, {"#N/A", bad(5)}, {"#CIRCLE!", bad(6)}, {"#LONG!", bad(7)}, {"#ARG!", bad(8)},
		{"#n/a", txt("#n/a")}, {"#N/A!", txt("#N/A!")}, {"#REF", txt("#REF")}, {"#", txt("#")}, {" #N/A", txt(" #N/A")}, {"=1", txt("=1")}, {"=", txt("=")}, {"1 2", txt("1 2")},
		{xs(256), txt(xs(256))}, {xs(257), tooLong}, {"'" + xs(256), txt(xs(256))}, {"'" + xs(257), tooLong}, {"=" + xs(256), tooLong}, {strings.Repeat("1", 257), tooLong},
		{"\x1f", valued}, {"\x7f", valued}, {"'\x00", valued}, {"1\n", valued}, {"TRUE\n", valued}, {"é", valued}, {xs(257) + "\n", valued}, {" ", txt(" ")}, {"~", txt("~")},
	} {
		same(t, Read(x.s), x.want, "Read of", x.s)
	}
}

// Promise 2.9: what is written.
func TestShow(t *testing.T) {
	for _, x := range []struct {
		v    api.Value
		want string
	}{
		{blank, ""}, {n(0, 1), "0"}, {n(-7, 2), "-3.5"}, {n(1, 3), "1/3"}, {n(top, 1), "1000000000000"}, {is(true), "TRUE"}, {is(false), "FALSE"},
		{bad(1), "#DIV/0!"}, {bad(2), "#VALUE!"}, {bad(3), "#REF!"}, {bad(4), "#NUM!"}, {bad(5), "#N/A"}, {bad(6), "#CIRCLE!"}, {bad(7), "#LONG!"}, {bad(8), "#ARG!"},
		{txt(""), "'"}, {txt("'"), "''"}, {txt("'x"), "''x"}, {txt("x'"), "x'"}, {txt("=A1"), "'=A1"}, {txt("="), "'="}, {txt("a=b"), "a=b"}, {txt(" =A1"), " =A1"},
		{txt("12"), "'12"}, {txt("-0"), "'-0"}, {txt("1/0"), "1/0"}, {txt("1 2"), "1 2"}, {txt("TRUE"), "'TRUE"}, {txt("FALSE"), "'FALSE"}, {txt("true"), "true"}, {txt("#REF!"), "'#REF!"}, {txt("#ref!"), "#ref!"},
		{txt(xs(256)), xs(256)}, {txt(strings.Repeat("0", 256)), "'" + strings.Repeat("0", 256)}, {txt("=" + xs(255)), "'=" + xs(255)},
		{n(2, 4), "#VALUE!"}, {txt(xs(257)), "#VALUE!"}, {bad(0), "#VALUE!"}, {bad(9), "#VALUE!"}, {bad(math.MinInt), "#VALUE!"}, {api.Value{Kind: 5}, "#VALUE!"},
	} {
		if got := Show(x.v); got != x.want {
			t.Fatal("Show of", x.v, "is", got)
		}
	}
}

// Promise 2.10: what is shown is read as it, and never looks like a formula.
func TestShownIsRead(t *testing.T) {
	for _, v := range append(rights(), ladder()...) {
		s := Show(v)
		same(t, Read(s), v, "Read of what is shown", s)
		if strings.HasPrefix(s, "=") {
			t.Fatal("Show begins with =", s)
		}
	}
}

// Promise 2.10: short texts of all the bytes that mean something, one by one.
func TestShownShortTexts(t *testing.T) {
	bytes := "'=#-+./01 TRUEFALSN!x"
	for _, a := range bytes {
		for _, b := range bytes {
			for _, c := range bytes {
				for _, s := range []string{string(a), string(a) + string(b), string(a) + string(b) + string(c)} {
					shown := Show(txt(s))
					same(t, Read(shown), txt(s), "Read of what is shown", shown)
					quoted := shown == "'"+s
					if !quoted && shown != s {
						t.Fatal("Show of", s, "is", shown)
					}
					if quoted && Read(s) == txt(s) && a != '=' {
						t.Fatal("a quote that is not needed", shown)
					}
				}
			}
		}
	}
}

// Promise 2.10: all that these calls answer is right, whatever they are given.
func TestAnswersAreRight(t *testing.T) {
	check := func(v api.Value, what ...any) {
		t.Helper()
		if !Right(v) {
			t.Fatal(append(what, "answers", v)...)
		}
	}
	all := append(rights(), wrongs()...)
	codes := append(append(noOps(), ops()...), api.OpNeg, api.OpPlus, api.OpPercent)
	for _, a := range all {
		check(Number(a.Num), "Number")
		check(Text(a.Text), "Text")
		check(Fault(a.Fault), "Fault")
		check(Read(a.Text), "Read")
		check(Read(Show(a)), "Read")
		x, fault := AsNumber(a)
		check(fault, "AsNumber", a)
		check(Number(x), "AsNumber", a)
		s, fault := AsText(a)
		check(fault, "AsText", a)
		check(txt(s), "AsText", a)
		_, fault = AsTruth(a)
		check(fault, "AsTruth", a)
		for _, op := range codes {
			check(Un(op, a), "Un", op, a)
		}
		for _, b := range all {
			check(Join(a, b, a), "Join", a, b)
			for _, op := range codes {
				check(Bin(op, a, b), "Bin", op, a, b)
			}
		}
	}
}
