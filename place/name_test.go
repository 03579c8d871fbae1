package place

import (
	"regexp"
	"strconv"
	"strings"
	"testing"

	"whittle/api"
)

// columns are all letters of columns in their order, worked out by counting.
func columns() []string {
	var list []string
	for _, ahead := range append([]string{""}, strings.Split("ABCDEFGHI", "")...) {
		for letter := 'A'; letter <= 'Z' && len(list) < api.MaxCols; letter++ {
			list = append(list, ahead+string(letter))
		}
	}
	return list
}

// Promise 3.2.
func TestCol(t *testing.T) {
	for n, want := range columns() {
		if got := Col(n); got != want {
			t.Error("Col of", n, "is", got)
		}
	}
	for _, n := range outside(api.MaxCols) {
		if got := Col(n); got != "" {
			t.Error("Col of", n, "is", got)
		}
	}
}

func TestName(t *testing.T) {
	for _, c := range rightCells() {
		if got, want := Name(c), columns()[c.Col]+strconv.Itoa(c.Row+1); got != want {
			t.Error("Name of", c, "is", got)
		}
	}
	for _, c := range wrongCells() {
		if got := Name(c); got != "" {
			t.Error("Name of", c, "is", got)
		}
	}
}

func TestNameArea(t *testing.T) {
	for _, a := range rightAreas() {
		if got, want := NameArea(a), Name(cell(a.Top, a.Left))+":"+Name(cell(a.Bottom, a.Right)); got != want {
			t.Error("NameArea of", a, "is", got)
		}
	}
	if got := NameArea(area(0, 0, api.MaxRows-1, api.MaxCols-1)); got != "A1:IV65536" {
		t.Error("NameArea of the greatest is", got)
	}
	for _, a := range wrongAreas() {
		if got := NameArea(a); got != "" {
			t.Error("NameArea of", a, "is", got)
		}
	}
}

var form = regexp.MustCompile(`^([A-Z]{1,2})([1-9][0-9]{0,4})$`)

// oracle is what Read must answer, by the form of names.
func oracle(s string) (row, col int, ok bool) {
	m := form.FindStringSubmatch(s)
	if m == nil {
		return 0, 0, false
	}
	row, _ = strconv.Atoi(m[2])
	for n, letters := range columns() {
		if letters == m[1] && row <= api.MaxRows {
			return row - 1, n, true
		}
	}
	return 0, 0, false
}

func holdRead(t *testing.T, s string) {
	t.Helper()
	row, col, ok := Read(s)
	if r, c, right := oracle(s); row != r || col != c || ok != right {
		t.Errorf("Read of %q is %d, %d, %v", s, row, col, ok)
	}
}

func TestRead(t *testing.T) {
	for s, want := range map[string]api.Cell{"A1": cell(0, 0), "B3": cell(2, 1), "Z9": cell(8, 25), "AA10": cell(9, 26), "AZ100": cell(99, 51), "BA1": cell(0, 52), "IV65536": cell(65535, 255), "IU65535": cell(65534, 254)} {
		if row, col, ok := Read(s); cell(row, col) != want || !ok {
			t.Error("Read of", s, "is", row, col, ok)
		}
	}
}

func TestReadNone(t *testing.T) {
	for _, s := range []string{
		"", "A", "Z", "IV", "1", "65536", "A0", "A00", "A01", "B03", "A065536", "a1", "b3", "aA1", "Aa1", "IW1", "IZ1", "JA1", "ZZ1", "AAA1", "AAAA1", "ABCDEFGHIJKLMNOPQRSTUVWXYZ1",
		"A65537", "A65540", "A65600", "A66000", "A70000", "A100000", "A655360", "A99999999999999999999", "A18446744073709551617", "A9223372036854775808", "A-9223372036854775808",
		"A-1", "A+1", "A1.0", "A1e0", "A1_0", "A 1", " A1", "A1 ", "\tA1", "A1\n", "A1\x00", "\x00A1", "$A1", "A$1", "1A", "A1A", "A1:A1", "R1C1", "\u00c41", "A\u0661", "\xffA1", "A@1", "A[1", "[1", "@1", "A1/", "A:", "A/",
		strings.Repeat("A", 10000) + "1", "A" + strings.Repeat("1", 10000), "A" + strings.Repeat("0", 10000) + "1",
	} {
		if row, col, ok := Read(s); row != 0 || col != 0 || ok {
			t.Errorf("Read of %q is %d, %d, %v", s, row, col, ok)
		}
	}
}

// Every text of two bytes, and every name with any byte in any place of it.
func TestReadBytes(t *testing.T) {
	for a := range 256 {
		for b := range 256 {
			holdRead(t, string([]byte{byte(a), byte(b)}))
		}
	}
	for _, s := range []string{"A1", "Z9", "AA10", "IV65536", "IV65535", "B3", "IV9999", "A65536"} {
		for i := range len(s) {
			for b := range 256 {
				holdRead(t, s[:i]+string([]byte{byte(b)})+s[i+1:])
				holdRead(t, s[:i]+string([]byte{byte(b)})+s[i:])
			}
			holdRead(t, s[:i]+s[i+1:])
		}
	}
}

// Promise 3.7.
func TestReadName(t *testing.T) {
	for col := range api.MaxCols {
		for _, row := range []int{0, 8, 9, 98, 99, 998, 999, 9998, 9999, 65534, 65535} {
			if r, c, ok := Read(Name(api.Cell{Sheet: 5, Row: row, Col: col})); r != row || c != col || !ok {
				t.Error("Read of the Name of", row, col, "is", r, c, ok)
			}
		}
	}
	for row := range api.MaxRows {
		if r, c, ok := Read(Name(cell(row, 30))); r != row || c != 30 || !ok {
			t.Error("Read of the Name of", row, "is", r, c, ok)
		}
	}
}

func TestReadNameArea(t *testing.T) {
	for _, a := range rightAreas() {
		top, left, bottom, right, ok := ReadArea(NameArea(a))
		if got := (api.Area{Sheet: a.Sheet, Top: top, Left: left, Bottom: bottom, Right: right}); got != a || !ok {
			t.Error("ReadArea of the NameArea of", a, "is", got, ok)
		}
	}
}

// Promise 3.2: any two corners are taken.
func TestReadArea(t *testing.T) {
	rows, cols := []int{0, 4, 9, api.MaxRows - 1}, []int{0, 3, 26, api.MaxCols - 1}
	for _, r := range rows {
		for _, c := range cols {
			for _, r2 := range rows {
				for _, c2 := range cols {
					s := Name(cell(r, c)) + ":" + Name(cell(r2, c2))
					top, left, bottom, right, ok := ReadArea(s)
					if area(top, left, bottom, right) != area(min(r, r2), min(c, c2), max(r, r2), max(c, c2)) || !ok {
						t.Error("ReadArea of", s, "is", top, left, bottom, right, ok)
					}
				}
			}
		}
	}
}

func TestReadAreaNone(t *testing.T) {
	for _, s := range []string{"", ":", "A1", "A1:", ":A1", "A1::B2", "A1:B2:", ":A1:B2", "A1:B2:C3", "A1;B2", "A1 :B2", "A1: B2", " A1:B2", "A1:B2 ", "A1:b2", "a1:B2", "A0:B2", "A1:B0", "A01:B2", "A1:IW1", "IW1:A1", "A1:A65537", "A65537:A1", "A:B", "1:2", "A1-B2", "$A$1:B2", "A1:B2\n", strings.Repeat("A1:", 10000) + "A1"} {
		if top, left, bottom, right, ok := ReadArea(s); area(top, left, bottom, right) != (api.Area{}) || ok {
			t.Errorf("ReadArea of %q is %d, %d, %d, %d, %v", s, top, left, bottom, right, ok)
		}
	}
}
