package num

import "whittle/api"

// The places that Round takes.
const (
	leastPlaces = -12
	mostPlaces  = 6
)

// Neg is a of the other sign.
func Neg(a api.Num) api.Num {
	a = counted(a)
	return api.Num{N: -a.N, D: a.D}
}

// Abs is a without its sign.
func Abs(a api.Num) api.Num {
	a = counted(a)
	return api.Num{N: size(a.N), D: a.D}
}

// Floor is the greatest whole number that is not above a.
func Floor(a api.Num) api.Num {
	a = counted(a)
	n := a.N / a.D
	// Go's division goes towards 0.
	if a.N%a.D < 0 {
		n--
	}
	return api.Num{N: n, D: 1}
}

// Round is a to so many places; false: there are no such places, or it doesn't fit.
func Round(a api.Num, places int) (api.Num, bool) {
	up, down := 1, 1
	switch {
	case places < leastPlaces || places > mostPlaces:
		return api.Num{}, false
	case places < 0:
		down = tenTo(-places)
	default:
		up = tenTo(places)
	}
	a = counted(a)
	// Neither of these, nor units times down, is above 10^18.
	whole, part := size(a.N)*up, a.D*down
	units, rest := whole/part, whole%part
	if rest >= part-rest {
		units++
	}
	return Make(sign(a.N)*units*down, up)
}

// Whole is the whole number that a is; false: it is none.
func Whole(a api.Num) (int, bool) {
	a = counted(a)
	if a.D != 1 {
		return 0, false
	}
	return a.N, true
}

// Cmp is -1, 0, 1.
func Cmp(a, b api.Num) int {
	x, y, _ := alike(a, b)
	return sign(x - y)
}

// tenTo is 10^k.
func tenTo(k int) int {
	result := 1
	for range k {
		result *= 10
	}
	return result
}
