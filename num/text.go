package num

import (
	"strconv"
	"strings"

	"whittle/api"
)

// mostSaid is the most that a piece of digits may say.
const mostSaid = 1000000000000000000

// Text writes a number.
func Text(a api.Num) string {
	a = counted(a)
	switch {
	case a.D == 1:
		return strconv.Itoa(a.N)
	case api.MaxDen%a.D != 0:
		return strconv.Itoa(a.N) + "/" + strconv.Itoa(a.D)
	}
	whole, rest := size(a.N)/a.D, size(a.N)%a.D
	text := strconv.Itoa(whole) + "." + decimals(rest, a.D)
	if a.N < 0 {
		// The whole part may be 0, and says no sign then.
		return "-" + text
	}
	return text
}

// decimals is rest / d, below 1, as digits behind the point: six at most, since d divides MaxDen.
func decimals(rest, d int) string {
	var text strings.Builder
	for rest != 0 {
		rest *= 10
		text.WriteByte(byte('0' + rest/d))
		rest %= d
	}
	return text.String()
}

// Read reads a number; false: the text says none, or one that doesn't fit.
func Read(s string) (api.Num, bool) {
	body, below := strings.CutPrefix(s, "-")
	n, d, ok := readFraction(body)
	switch {
	case !ok:
		return api.Num{}, false
	case below:
		n = -n
	}
	return Make(n, d)
}

// readFraction reads a number without a sign as n / d, as it is written.
func readFraction(s string) (n, d int, ok bool) {
	whole, rest, ok := readDigits(s)
	switch {
	case !ok:
		return 0, 0, false
	case rest == "":
		return whole, 1, true
	case rest[0] == '.':
		return readPlaces(whole, rest[1:])
	case rest[0] == '/':
		below, end, ok := readDigits(rest[1:])
		if !ok || end != "" {
			return 0, 0, false
		}
		return whole, below, true
	}
	return 0, 0, false
}

// readPlaces reads what stands behind a point, and joins it to the whole part. What is above MaxNum won't fit, and is given up before it can leave int64.
func readPlaces(whole int, s string) (n, d int, ok bool) {
	if len(s) > mostPlaces || whole > api.MaxNum {
		return 0, 0, false
	}
	part, end, ok := readDigits(s)
	if !ok || end != "" {
		return 0, 0, false
	}
	d = tenTo(len(s))
	return whole*d + part, d, true
}

// readDigits reads the digits that s begins with, and tells what stands behind them; false: there are none, or they say more than mostSaid.
func readDigits(s string) (said int, rest string, ok bool) {
	at := 0
	for at < len(s) && s[at] >= '0' && s[at] <= '9' {
		digit := int(s[at] - '0')
		if said > (mostSaid-digit)/10 {
			return 0, "", false
		}
		said = said*10 + digit
		at++
	}
	if at == 0 {
		return 0, "", false
	}
	return said, s[at:], true
}
