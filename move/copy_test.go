package move

import (
	"math"
	"strconv"
	"strings"
	"testing"

	"whittle/api"
	"whittle/tree"
)

// word is a ref as a formula names it.
func word(r api.Ref) string {
	var b strings.Builder
	if r.Sheet != "" {
		b.WriteString(r.Sheet + "!")
	}
	if r.FixCol {
		b.WriteString("$")
	}
	if r.Col >= 26 {
		b.WriteByte(byte('A' + r.Col/26 - 1))
	}
	b.WriteByte(byte('A' + r.Col%26))
	if r.FixRow {
		b.WriteString("$")
	}
	b.WriteString(strconv.Itoa(r.Row + 1))
	return b.String()
}

// wordAt is a ref as a formula names it, so much further.
func wordAt(r api.Ref, rows, cols int) string {
	if at, ok := moved(r, rows, cols); ok {
		return word(at)
	}
	return "#REF!"
}

// areaAt is an area as a formula names it, so much further.
func areaAt(a, b api.Ref, rows, cols int) string {
	first, last := wordAt(a, rows, cols), wordAt(b, rows, cols)
	if first == "#REF!" || last == "#REF!" {
		return "#REF!"
	}
	return first + ":" + last
}

// frames are formulas with two places at which a cell or an area stands.
func frames() []string {
	return []string{"@+@", "-@%*(1-@)", `IF(@>=0,"A1",F(@,TRUE,A1()))`, `"@A1"&@&@`, "1.5^@^(@^2)"}
}

// framed are contents with two texts in the two places of a frame.
func framed(frame, x, y string) string {
	pieces := strings.Split(strings.ReplaceAll(frame, `"@`, `"~`), "@")
	return "=" + strings.ReplaceAll(pieces[0]+x+pieces[1]+y+pieces[2], "~", "@")
}

func TestCopyByWords(t *testing.T) { // Promise 6.2, and W10: held against the words of the text alone.
	some := []api.Ref{{Row: 9, Col: 25}, {Row: 9, Col: 25, FixRow: true}, {Row: 9, Col: 25, FixCol: true}, {Row: 9, Col: 25, FixRow: true, FixCol: true}, {Row: 0, Col: 255}, {Row: 65535, Col: 0}}
	ways := [][2]int{{0, 0}, {1, 0}, {0, 1}, {1, 1}, {-9, -25}, {-10, 0}, {0, -26}, {90, 230}, {0, 231}, {65526, 0}, {65527, 0}, {math.MinInt, math.MaxInt}, {math.MaxInt, math.MinInt}}
	for _, sheet := range []string{"", "T", "Sheet1"} {
		for _, a := range some {
			a.Sheet = sheet
			for _, b := range some {
				for _, frame := range frames() {
					for _, w := range ways {
						area, cell := word(a)+":"+word(b), word(a)
						areaThere, cellThere := areaAt(a, b, w[0], w[1]), wordAt(a, w[0], w[1])
						copied(t, framed(frame, area, cell), w[0], w[1], framed(frame, areaThere, cellThere))
						copied(t, framed(frame, word(b), area), w[0], w[1], framed(frame, wordAt(b, w[0], w[1]), areaThere))
					}
				}
			}
		}
	}
}

func TestCopyIsOneForm(t *testing.T) { // Promise 6.2: what tree.Print writes, lost refs and all.
	copied(t, "=  ( A1 )+(( 2 )) ", 0, 1, "=B1+2")
	copied(t, "=01.50*(A1)", 1, 0, "=1.5*A2")
	copied(t, "=(1-A1)-(2-A1:B2)", -1, 0, "=1-#REF!-(2-#REF!)")
	copied(t, "=-A1%", 0, -1, "=-#REF!%")
	copied(t, "=#REF!+#N/A", 3, 3, "=#REF!+#N/A")
	copied(t, `="A1"&"say ""A1"""`, 3, 3, `="A1"&"say ""A1"""`)
	copied(t, "=A1!A1", 1, 1, "=A1!B2")
	copied(t, "=A1()", 1, 1, "=A1()")
	copied(t, "=T!A1:B2", 0, -1, "=#REF!")
	copied(t, "=B2:A1", -1, 0, "=#REF!")
	copied(t, "=A1:B2", -1, 0, "=#REF!")
	copied(t, "=B2:A1", 2, 2, "=D4:C3")
	copied(t, "=A1:$B$2", 5, 5, "=F6:$B$2")
	copied(t, "=TRUE", 1, 1, "=TRUE")
}

func TestCopyRefused(t *testing.T) { // Promise 6.2: the error of Parse, by any rows and columns.
	formulas := []string{"", " ", "1+", "=A1", "(A1", "A1)", "A1 B2", "a1", "A0", "IW1", "A65537", "A1:T!B2", "A", "1000000000001", "_", "A1+_", `"A1`, "é", "A1\n", "\"\x7f\"", "#REF", "F(1" + strings.Repeat(",A1", 30) + ")", strings.Repeat("-", 31) + "A1", strings.Repeat("-", 32) + "A1", strings.Repeat("-", 300) + "A1", strings.Repeat("1+", 200) + "A1", `"` + strings.Repeat("x", 257) + `"`, strings.Repeat(" ", 1023) + "1", strings.Repeat(" ", 1024) + "1"}
	refused := map[api.Errno]int{}
	for _, s := range formulas {
		_, code, _ := tree.Parse(s)
		refused[code]++
		if code == api.OK {
			continue
		}
		for _, by := range []int{math.MinInt, -1, 0, 1, math.MaxInt} {
			uncopied(t, "="+s, by, 0, code)
			uncopied(t, "="+s, 0, by, code)
		}
	}
	for _, code := range []api.Errno{api.ErrByte, api.ErrQuote, api.ErrForm, api.ErrMany, api.ErrNodes, api.ErrDeep, api.ErrLong} {
		if refused[code] == 0 {
			t.Error("no formula is refused with", code)
		}
	}
	uncopied(t, "=F(1"+strings.Repeat(",A1", 30)+")", 1, 1, api.ErrMany)
	uncopied(t, "="+strings.Repeat("-", 32)+"A1", 1, 1, api.ErrDeep)
	uncopied(t, "="+strings.Repeat(" ", 1024)+"1", 1, 1, api.ErrLong)
}

func TestCopyOfNoFormula(t *testing.T) { // Promise 6.2: any other text as it is.
	for _, text := range []string{"", " ", "A1", " =A1", "'=A1", "'", "1=A1", "-A1", "+A1", "\t=A1", "x\n", "é=A1", "\x00", "\xff", "TRUE", "#REF!", "(=A1)", strings.Repeat("A1+", 5000)} {
		for _, by := range []int{math.MinInt, -1, 0, 1, math.MaxInt} {
			copied(t, text, by, by, text)
		}
	}
}

// padded is a formula of just so many bytes, with a cell at its end.
func padded(t *testing.T, bytes int, cell string) string {
	t.Helper()
	var b strings.Builder
	b.WriteString("=")
	for left := bytes - 1 - len(cell); left > 0; left = bytes - b.Len() - len(cell) {
		// At least three bytes more have to follow: two quotes and an &.
		size := min(left, 203)
		if left-size > 0 && left-size < 3 {
			size -= 3
		}
		b.WriteString(`"` + strings.Repeat("x", size-3) + `"&`)
	}
	b.WriteString(cell)
	if b.Len() != bytes {
		t.Fatalf("the test's own formula has %d bytes, not %d", b.Len(), bytes)
	}
	return b.String()
}

func TestCopyTooLong(t *testing.T) { // Promise 6.2: MaxContent bytes, with the =, and not one more.
	most := padded(t, api.MaxContent, "A9")
	copied(t, most, 0, 0, most)
	copied(t, most, -8, 25, strings.TrimSuffix(most, "A9")+"Z1")
	for _, by := range [][2]int{{1, 0}, {0, 26}, {1, 26}, {65527, 255}, {65528, 0}, {0, 256}, {0, -1}, {-9, 0}, {math.MaxInt, math.MinInt}} {
		uncopied(t, most, by[0], by[1], api.ErrLong)
	}
	less := padded(t, api.MaxContent-1, "A9")
	copied(t, less, 1, 0, strings.TrimSuffix(less, "A9")+"A10")
	copied(t, less, 0, 26, strings.TrimSuffix(less, "A9")+"AA9")
	uncopied(t, less, 1, 26, api.ErrLong)
	uncopied(t, less, -9, 0, api.ErrLong)
	shrinks := padded(t, api.MaxContent, "IV65536")
	copied(t, shrinks, -65535, -255, strings.TrimSuffix(shrinks, "IV65536")+"A1")
	copied(t, shrinks, 1, 0, strings.TrimSuffix(shrinks, "IV65536")+"#REF!")
}

func TestCopyOfLongFormulas(t *testing.T) { // Promise 6.2: how long it is counts behind Print, not ahead of it.
	over := padded(t, api.MaxContent+1, "B9")
	if _, code, _ := tree.Parse(over[1:]); code != api.OK {
		t.Fatal("a formula of MaxContent bytes without its = is refused:", code)
	}
	uncopied(t, over, 0, 0, api.ErrLong)
	uncopied(t, over, -1, -1, api.ErrLong)
	blank := strings.Replace(padded(t, api.MaxContent, "B9"), "=", "= ", 1)
	copied(t, blank, -1, -1, padded(t, api.MaxContent, "A8"))
	uncopied(t, blank, 1, 1, api.ErrLong)
	fits := padded(t, api.MaxContent+1, "AA9")
	copied(t, fits, 0, -1, strings.TrimSuffix(fits, "AA9")+"Z9")
	uncopied(t, padded(t, api.MaxContent+2, "AA9"), 0, -1, api.ErrLong)
}
