package image

import (
	"reflect"
	"slices"
	"strconv"
	"strings"

	"whittle/api"
)

// parts is 21.1 and 21.2 once more: what stands of each thing, one part behind the other: a field, and what it is (with a * ahead a list of these). What stands behind them, if it hangs on them, tells behind.
var parts = map[string][]string{
	"state":  strings.Fields("Sheets:*text Version:number Cells:*held Views:**area Frames:*flight"),
	"held":   strings.Fields("Cell:cell Text:text Stale:truth V:value Ever:truth Version:number"),
	"flight": strings.Fields("On:truth"),
	"flown":  strings.Fields("Cell:cell Frame:frame"),
	"frame":  strings.Fields("At:number Steps:number Stack:*value Accs:*fold Scans:number Done:truth"),
	"fold":   strings.Fields("Fn:number Count:number Num:num V:value Needle:value Has:truth Full:truth Wants:truth Held:num"),
	"cell":   strings.Fields("Sheet:number Row:number Col:number"),
	"area":   strings.Fields("Sheet:number Top:number Left:number Bottom:number Right:number"),
	"num":    strings.Fields("N:int D:number"),
	"value":  strings.Fields("Kind:kind"),
	"1":      strings.Fields("Num:num"),
	"2":      strings.Fields("Text:text"),
	"3":      strings.Fields("True:truth"),
	"4":      strings.Fields("Fault:byte"),
}

// behind is what stands behind a thing's parts: of a flight that is on the rest, of a value what its kind asks for.
func behind(thing string, x reflect.Value) []string {
	switch {
	case thing == "value":
		return parts[strconv.Itoa(int(x.FieldByName("Kind").Int()))]
	case thing == "flight" && x.FieldByName("On").Bool():
		return parts["flown"]
	}
	return nil
}

// numberBytes are a number's, by its digits in base 2.
func numberBytes(x int) []byte {
	digits := strconv.FormatInt(int64(x), 2)
	digits = strings.Repeat("0", (7-len(digits)%7)%7) + digits
	var b []byte
	for rest := digits; rest != ""; rest = rest[:len(rest)-7] {
		group, _ := strconv.ParseUint(rest[len(rest)-7:], 2, 8)
		if len(rest) > 7 {
			group += 128
		}
		b = append(b, byte(group))
	}
	return b
}

// bytesOf are a thing's bytes; false, if it can't be written.
func bytesOf(thing string, x reflect.Value) ([]byte, bool) {
	if part, ok := strings.CutPrefix(thing, "*"); ok {
		b, right := numberBytes(x.Len()), true
		for i := range x.Len() {
			more, ok := bytesOf(part, x.Index(i))
			b, right = append(b, more...), right && ok
		}
		return b, right
	}
	switch thing {
	case "number":
		k := x.Int()
		if k < 0 || k > 1<<62 {
			return nil, false
		}
		return numberBytes(int(k)), true
	case "int":
		k := x.Int()
		if k < -1<<61 || k > 1<<61 {
			return nil, false
		}
		if k < 0 {
			return numberBytes(int(-2*k - 1)), true
		}
		return numberBytes(int(2 * k)), true
	case "truth":
		if x.Bool() {
			return []byte{1}, true
		}
		return []byte{0}, true
	case "text":
		return append(numberBytes(x.Len()), x.String()...), true
	case "kind":
		return []byte{byte(x.Int())}, x.Int() >= 0 && x.Int() <= 4
	case "byte":
		return []byte{byte(x.Int())}, x.Int() >= 0 && x.Int() <= 255
	}
	return bytesOfParts(thing, x)
}

// bytesOfParts are the bytes of a thing that has parts: all fields that don't stand in them must be zero.
func bytesOfParts(thing string, x reflect.Value) ([]byte, bool) {
	var b []byte
	right, stands := true, map[string]bool{}
	for _, part := range slices.Concat(parts[thing], behind(thing, x)) {
		name, what, _ := strings.Cut(part, ":")
		inner, ok := bytesOf(what, x.FieldByName(name))
		b, right, stands[name] = append(b, inner...), right && ok, true
	}
	for i := range x.NumField() {
		right = right && (stands[x.Type().Field(i).Name] || isZero(x.Field(i)))
	}
	return b, right
}

// isZero is reflect's, but that lists without parts are zero, too.
func isZero(x reflect.Value) bool {
	switch x.Kind() {
	case reflect.Slice:
		return x.Len() == 0
	case reflect.Struct:
		for i := range x.NumField() {
			if !isZero(x.Field(i)) {
				return false
			}
		}
		return true
	}
	return x.IsZero()
}

// wantBytes is 21.3 once more.
func wantBytes(s api.State) ([]byte, api.Errno) {
	b, ok := bytesOf("state", reflect.ValueOf(s))
	switch {
	case !ok:
		return nil, api.ErrImage
	case len(b)+4 > api.MaxImage:
		return nil, api.ErrLong
	}
	return append([]byte("WHT1"), b...), api.OK
}

// tape is bytes that are read from the left, till one of them is bad.
type tape struct {
	b   []byte
	at  int
	bad int // where; -1: nowhere yet
}

func (p *tape) fail(at int) {
	if p.bad < 0 {
		p.bad = at
	}
}

// next is the next byte; at the end, and behind a bad one, 0.
func (p *tape) next() int {
	if p.at == len(p.b) {
		p.fail(len(p.b))
	}
	if p.bad >= 0 {
		return 0
	}
	p.at++
	return int(p.b[p.at-1])
}

// number is the next one, by its digits in base 128.
func (p *tape) number() int {
	from := p.at
	digits := []int{p.next()}
	for digits[len(digits)-1] >= 128 && len(digits) < 10 && p.bad < 0 {
		if len(digits) == 9 {
			p.fail(from)
		}
		digits = append(digits, p.next())
	}
	if len(digits) > 1 && digits[len(digits)-1] == 0 {
		p.fail(from)
	}
	x := 0
	for i := len(digits) - 1; i >= 0 && p.bad < 0; i-- {
		x = x*128 + digits[i]%128
	}
	if x > 1<<62 {
		p.fail(from)
	}
	return x
}

// among is the next byte, if it is less than k.
func (p *tape) among(k int) int {
	from := p.at
	b := p.next()
	if b >= k {
		p.fail(from)
	}
	return b
}

// parts is how many follow.
func (p *tape) parts() int {
	k := p.number()
	if k > len(p.b)-p.at {
		p.fail(len(p.b))
	}
	if p.bad >= 0 {
		return 0
	}
	return k
}

// fit reads a thing.
func (p *tape) fit(thing string, x reflect.Value) {
	if p.bad >= 0 {
		return
	}
	if part, ok := strings.CutPrefix(thing, "*"); ok {
		for k := p.parts(); k > 0 && p.bad < 0; k-- {
			x.Set(reflect.Append(x, reflect.Zero(x.Type().Elem())))
			p.fit(part, x.Index(x.Len()-1))
		}
		return
	}
	switch thing {
	case "number":
		x.SetInt(int64(p.number()))
	case "int":
		k := p.number()
		if k%2 == 1 {
			k = -k - 1
		}
		x.SetInt(int64(k / 2))
	case "truth":
		x.SetBool(p.among(2) == 1)
	case "text":
		k := p.parts()
		x.SetString(string(p.b[p.at : p.at+k]))
		p.at += k
	case "kind":
		x.SetInt(int64(p.among(5)))
	case "byte":
		x.SetInt(int64(p.among(256)))
	default:
		p.fitAll(parts[thing], x)
		p.fitAll(behind(thing, x), x)
	}
}

func (p *tape) fitAll(list []string, x reflect.Value) {
	for _, part := range list {
		name, what, _ := strings.Cut(part, ":")
		p.fit(what, x.FieldByName(name))
	}
}

// wantState is 21.4 once more.
func wantState(b []byte) (api.State, api.Errno, int) {
	if len(b) > api.MaxImage {
		return api.State{}, api.ErrLong, 0
	}
	var s api.State
	p := &tape{b: b, bad: -1}
	switch {
	case len(b) < 4:
		p.bad = len(b)
	case string(b[:4]) != "WHT1":
		p.bad = 0
	default:
		p.at = 4
		p.fit("state", reflect.ValueOf(&s).Elem())
	}
	if p.at < len(b) {
		p.fail(p.at)
	}
	if p.bad >= 0 {
		return api.State{}, api.ErrImage, p.bad
	}
	return s, api.OK, 0
}
