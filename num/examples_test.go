package num

import (
	"math"
	"testing"

	"whittle/api"
)

// The chapter's table of examples, row by row.

func TestExamplesRight(t *testing.T) {
	for _, x := range []struct {
		a    api.Num
		want bool
	}{{of(6, 4), false}, {of(0, 2), false}, {of(0, 1), true}, {of(top+1, 1), false}, {of(1, 0), false}} {
		if Right(x.a) != x.want {
			t.Fatal("Right of", x.a, "is not", x.want)
		}
	}
}

func TestExamplesMake(t *testing.T) {
	same(t, got(Make(6, -4)), yes(-3, 2), "Make(6, -4)")
	same(t, got(Make(1, 0)), no, "Make(1, 0)")
	same(t, got(Make(math.MinInt, math.MinInt)), yes(1, 1), "Make(-2^63, -2^63)")
	same(t, got(Make(1, bottom+1)), no, "Make(1, 10^6 + 1)")
	same(t, got(Make(2*top, 2)), yes(top, 1), "Make(2 * 10^12, 2)")
}

func TestExamplesReckon(t *testing.T) {
	same(t, got(Add(of(1, 3), of(1, 6))), yes(1, 2), "Add(1/3, 1/6)")
	same(t, got(Sub(of(1, 3), of(1, 3))), yes(0, 1), "Sub(1/3, 1/3)")
	same(t, got(Mul(of(2, 3), of(3, 2))), yes(1, 1), "Mul(2/3, 3/2)")
	same(t, got(Div(of(1, 1), of(0, 1))), no, "Div(1, 0)")
	same(t, got(Add(of(top, 1), of(1, 1))), no, "Add(10^12, 1)")
	same(t, got(Add(of(1, 999983), of(1, 999979))), no, "Add(1/999983, 1/999979)")
}

func TestExamplesMod(t *testing.T) {
	same(t, got(Mod(of(7, 1), of(3, 1))), yes(1, 1), "Mod(7, 3)")
	same(t, got(Mod(of(-7, 1), of(3, 1))), yes(2, 1), "Mod(-7, 3)")
	same(t, got(Mod(of(7, 1), of(-3, 1))), yes(-2, 1), "Mod(7, -3)")
	same(t, got(Mod(of(7, 2), of(2, 1))), yes(3, 2), "Mod(7/2, 2)")
	same(t, got(Mod(of(1, 1), of(0, 1))), no, "Mod(1, 0)")
}

func TestExamplesPow(t *testing.T) {
	same(t, got(Pow(of(2, 3), 2)), yes(4, 9), "Pow(2/3, 2)")
	same(t, got(Pow(of(2, 1), -2)), yes(1, 4), "Pow(2, -2)")
	same(t, got(Pow(of(0, 1), 0)), yes(1, 1), "Pow(0, 0)")
	same(t, got(Pow(of(0, 1), -1)), no, "Pow(0, -1)")
	same(t, got(Pow(of(10, 1), 12)), yes(top, 1), "Pow(10, 12)")
	same(t, got(Pow(of(10, 1), 13)), no, "Pow(10, 13)")
	same(t, got(Pow(of(-1, 1), math.MaxInt)), yes(-1, 1), "Pow(-1, 2^63 - 1)")
}

func TestExamplesSum(t *testing.T) {
	same(t, got(Sum()), yes(0, 1), "Sum()")
	same(t, got(Sum(of(1, 1), of(2, 1), of(3, 1))), yes(6, 1), "Sum(1, 2, 3)")
	same(t, got(Sum(of(top, 1), of(1, 1), of(-1, 1))), no, "Sum(10^12, 1, -1)")
}

func TestExamplesRound(t *testing.T) {
	same(t, answer{Floor(of(-1, 2)), true}, yes(-1, 1), "Floor(-1/2)")
	same(t, got(Round(of(5, 2), 0)), yes(3, 1), "Round(5/2, 0)")
	same(t, got(Round(of(-5, 2), 0)), yes(-3, 1), "Round(-5/2, 0)")
	same(t, got(Round(of(1234, 1), -2)), yes(1200, 1), "Round(1234, -2)")
	same(t, got(Round(of(1, 3), 2)), yes(33, 100), "Round(1/3, 2)")
	same(t, got(Round(of(1, 1), 7)), no, "Round(1, 7)")
}

func TestExamplesText(t *testing.T) {
	for _, x := range []struct {
		a    api.Num
		want string
	}{{of(1, 4), "0.25"}, {of(-7, 2), "-3.5"}, {of(1, 3), "1/3"}, {of(top, 1), "1000000000000"}, {of(1, bottom), "0.000001"}, {of(6, 4), "0"}} {
		if s := Text(x.a); s != x.want {
			t.Fatal("Text of", x.a, "is", s)
		}
	}
}

func TestExamplesRead(t *testing.T) {
	for _, x := range []struct {
		s    string
		want answer
	}{{"007", yes(7, 1)}, {"-0", yes(0, 1)}, {"2/4", yes(1, 2)}, {"1.50", yes(3, 2)}, {"1.", no}, {".5", no}, {"+1", no}, {"1/0", no}, {"0.0000001", no}, {"1 2", no}, {"", no}} {
		same(t, got(Read(x.s)), x.want, "Read of "+x.s)
	}
}
