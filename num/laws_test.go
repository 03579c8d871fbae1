package num

import (
	"math"
	"math/big"
	"slices"
	"testing"

	"whittle/api"
)

// row is a row of numbers that look like chance, and are always the same ones.
type row uint64

func (r *row) below(n int) int {
	*r = *r*6364136223846793005 + 1442695040888963407
	return int(uint64(*r)>>20) % n
}

// many are the edges, and count numbers of all sizes beside them.
func many(count int) []api.Num {
	r := row(1)
	list := slices.Clone(rightNums)
	for len(list) < len(rightNums)+count {
		n, d := r.below(1<<(1+r.below(40))), 1+r.below(1<<(1+r.below(20)))
		if r.below(2) == 0 {
			n = -n
		}
		if a, ok := Make(n, d); ok {
			list = append(list, a)
		}
	}
	return list
}

func rat(a api.Num) *big.Rat { return big.NewRat(int64(a.N), int64(a.D)) }

// fitted is what the promises 1.1 and 1.2 ask of an exact result.
func fitted(x *big.Rat) answer {
	n, d := x.Num(), x.Denom()
	if n.CmpAbs(big.NewInt(api.MaxNum)) > 0 || d.Cmp(big.NewInt(api.MaxDen)) > 0 {
		return no
	}
	return yes(int(n.Int64()), int(d.Int64()))
}

func floor(x *big.Rat) *big.Rat {
	// Div of big goes down, where what is divided by is above 0.
	return new(big.Rat).SetInt(new(big.Int).Div(x.Num(), x.Denom()))
}

func mod(x, y *big.Rat) *big.Rat {
	whole := floor(new(big.Rat).Quo(x, y))
	return new(big.Rat).Sub(x, whole.Mul(whole, y))
}

// Promises 1.2, 1.4, 1.6: held against numbers of any size.
func TestExact(t *testing.T) {
	list := many(300)
	for _, a := range list {
		for _, b := range list {
			x, y := rat(a), rat(b)
			same(t, got(Add(a, b)), fitted(new(big.Rat).Add(x, y)), "Add", a, b)
			same(t, got(Sub(a, b)), fitted(new(big.Rat).Sub(x, y)), "Sub", a, b)
			same(t, got(Mul(a, b)), fitted(new(big.Rat).Mul(x, y)), "Mul", a, b)
			if Cmp(a, b) != x.Cmp(y) {
				t.Fatal("Cmp", a, b, Cmp(a, b))
			}
			if b.N == 0 {
				same(t, got(Div(a, b)), no, "Div by 0", a, b)
				same(t, got(Mod(a, b)), no, "Mod by 0", a, b)
				continue
			}
			same(t, got(Div(a, b)), fitted(new(big.Rat).Quo(x, y)), "Div", a, b)
			same(t, got(Mod(a, b)), fitted(mod(x, y)), "Mod", a, b)
		}
		same(t, answer{Neg(a), true}, fitted(new(big.Rat).Neg(rat(a))), "Neg", a)
		same(t, answer{Abs(a), true}, fitted(new(big.Rat).Abs(rat(a))), "Abs", a)
		same(t, answer{Floor(a), true}, fitted(floor(rat(a))), "Floor", a)
	}
}

// Promise 1.3: any ints.
func TestMakeExact(t *testing.T) {
	ints := []int{0, 1, 2, 3, 6, 7, 999983, bottom, bottom + 1, top - 1, top, top + 1, 2 * top, 1 << 19, 1 << 20, 1 << 40, 1 << 62, 3 << 61 >> 1, top * bottom, math.MaxInt, math.MaxInt - 1}
	for _, n := range slices.Clone(ints) {
		ints = append(ints, -n)
	}
	ints = append(ints, math.MinInt)
	for _, n := range ints {
		for _, d := range ints {
			want := no
			if d != 0 {
				want = fitted(new(big.Rat).SetFrac(big.NewInt(int64(n)), big.NewInt(int64(d))))
			}
			same(t, got(Make(n, d)), want, "Make", n, d)
		}
	}
}

// Promise 1.4: Pow is the product, from both sides.
func TestPowExact(t *testing.T) {
	for _, a := range many(300) {
		up, down := big.NewRat(1, 1), big.NewRat(1, 1)
		for k := range 45 {
			same(t, got(Pow(a, k)), fitted(up), "Pow", a, k)
			up = new(big.Rat).Mul(up, rat(a))
			if a.N != 0 {
				same(t, got(Pow(a, -k)), fitted(down), "Pow", a, -k)
				down = new(big.Rat).Quo(down, rat(a))
			}
		}
	}
}

// Promise 1.7: the nearest multiple, of two the one further from 0.
func TestRoundExact(t *testing.T) {
	half, ten := big.NewRat(1, 2), big.NewRat(10, 1)
	for _, a := range many(2000) {
		unit := big.NewRat(top, 1)
		for places := -12; places <= 6; places++ {
			units := new(big.Rat).Quo(new(big.Rat).Abs(rat(a)), unit)
			near := floor(units.Add(units, half))
			if a.N < 0 {
				near.Neg(near)
			}
			same(t, got(Round(a, places)), fitted(near.Mul(near, unit)), "Round", a, places)
			unit = new(big.Rat).Quo(unit, ten)
		}
	}
}

// Promise 1.10: what two and what three have to do with each other.
func TestOrderAndGroups(t *testing.T) {
	list := many(20)
	for _, a := range list {
		for _, b := range list {
			same(t, got(Add(a, b)), got(Add(b, a)), "Add, turned", a, b)
			same(t, got(Mul(a, b)), got(Mul(b, a)), "Mul, turned", a, b)
			if s, ok := Add(a, b); ok {
				same(t, got(Sub(s, b)), answer{a, true}, "Sub behind Add", s, b)
			}
			if p, ok := Mul(a, b); ok && b.N != 0 {
				same(t, got(Div(p, b)), answer{a, true}, "Div behind Mul", p, b)
			}
			if Cmp(a, b) != -Cmp(b, a) || (Cmp(a, b) == 0) != (a == b) {
				t.Fatal("Cmp, turned", a, b)
			}
			for _, c := range list {
				grouped(t, "Add", Add, a, b, c)
				grouped(t, "Mul", Mul, a, b, c)
				through(t, a, b, c)
				ordered(t, a, b, c)
			}
		}
	}
}

func grouped(t *testing.T, name string, call func(a, b api.Num) (api.Num, bool), a, b, c api.Num) {
	ab, ok := call(a, b)
	bc, also := call(b, c)
	if !ok || !also {
		return
	}
	left, right := got(call(ab, c)), got(call(a, bc))
	if left.ok && right.ok {
		same(t, left, right, name+", grouped", a, b, c)
	}
}

func through(t *testing.T, a, b, c api.Num) {
	sum, ok := Add(a, b)
	ac, first := Mul(a, c)
	bc, second := Mul(b, c)
	if !ok || !first || !second {
		return
	}
	left, right := got(Mul(sum, c)), got(Add(ac, bc))
	if left.ok && right.ok {
		same(t, left, right, "Mul through Add", a, b, c)
	}
}

func ordered(t *testing.T, a, b, c api.Num) {
	if Cmp(a, b) <= 0 && Cmp(b, c) <= 0 && Cmp(a, c) > 0 {
		t.Fatal("Cmp is no order", a, b, c)
	}
	ac, ok := Add(a, c)
	bc, also := Add(b, c)
	if ok && also && Cmp(ac, bc) != Cmp(a, b) {
		t.Fatal("Add doesn't keep the order", a, b, c)
	}
	ac, ok = Mul(a, c)
	bc, also = Mul(b, c)
	if ok && also && c.N > 0 && Cmp(ac, bc) != Cmp(a, b) {
		t.Fatal("Mul doesn't keep the order", a, b, c)
	}
}

// Promise 1.11.
func TestFloorAndMod(t *testing.T) {
	list := many(100)
	zero := of(0, 1)
	for _, a := range list {
		down := Floor(a)
		if up, ok := Add(down, of(1, 1)); Cmp(down, a) > 0 || ok && Cmp(a, up) >= 0 {
			t.Fatal("Floor of", a, "is", down)
		}
		for _, b := range list {
			m, ok := Mod(a, b)
			switch {
			case !ok:
			case b.N > 0 && (Cmp(m, zero) < 0 || Cmp(m, b) >= 0):
				t.Fatal("Mod", a, b, m)
			case b.N < 0 && (Cmp(m, zero) > 0 || Cmp(m, b) <= 0):
				t.Fatal("Mod", a, b, m)
			}
		}
	}
}

// Promises 1.1, 1.2 and rule R1: at all arguments a call ends, and answers a right number, or with false the zero Num.
func TestEveryArgument(t *testing.T) {
	ints := []int{math.MinInt, math.MinInt + 1, -top - 1, -top, -bottom - 1, -bottom, -40, -13, -12, -1, 0, 1, 6, 7, 40, bottom, bottom + 1, top, top + 1, math.MaxInt - 1, math.MaxInt}
	check := func(what string, a api.Num, ok bool) {
		if ok != Right(a) || !ok && a != none {
			t.Fatal(what, "answers", a, ok)
		}
	}
	for _, n := range ints {
		for _, d := range ints {
			a := of(n, d)
			check("Neg", Neg(a), true)
			check("Abs", Abs(a), true)
			check("Floor", Floor(a), true)
			m, ok := Make(n, d)
			check("Make", m, ok)
			if s, ok := Read(Text(a)); !ok || !Right(s) {
				t.Fatal("Text of", a, "is", Text(a))
			}
			for _, k := range ints {
				p, ok := Pow(a, k)
				check("Pow", p, ok)
				p, ok = Round(a, k)
				check("Round", p, ok)
				for name, call := range pairs() {
					p, ok = call(a, of(k, 1))
					check(name, p, ok)
					p, ok = call(of(1, k), a)
					check(name, p, ok)
				}
			}
		}
	}
}
