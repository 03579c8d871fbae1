package place

import (
	"strconv"
	"strings"

	"whittle/api"
)

// The letters of which a column's name is made.
const letters = "ABCDEFGHIJKLMNOPQRSTUVWXYZ"

// Col is a column as text; empty, if there is none.
func Col(n int) string {
	if !below(n, api.MaxCols) {
		return ""
	}
	text := ""
	// There is no letter for nought: behind Z comes AA, not BA, so each letter ahead counts one less.
	for ; n >= 0; n = n/len(letters) - 1 {
		text = string(letters[n%len(letters)]) + text
	}
	return text
}

// Name is a cell without its sheet as text; empty, if it is none.
func Name(c api.Cell) string {
	if !Right(c) {
		return ""
	}
	return Col(c.Col) + strconv.Itoa(c.Row+1)
}

// Read is the row and the column of which s is the name; false, if there is none.
func Read(s string) (row, col int, ok bool) {
	col, digits := readCol(s)
	row, rest := readRow(digits)
	// Both are counted from 1 on in a name, so that what has none of one is no cell.
	c := api.Cell{Row: row - 1, Col: col - 1}
	if rest != "" || !Right(c) {
		return 0, 0, false
	}
	return c.Row, c.Col, true
}

// NameArea is an area without its sheet as text; empty, if it is none.
func NameArea(a api.Area) string {
	if !RightArea(a) {
		return ""
	}
	return Name(first(a)) + ":" + Name(last(a))
}

// ReadArea is the area of which s names two corners, any two; false, if it names none.
func ReadArea(s string) (top, left, bottom, right int, ok bool) {
	one, other, _ := strings.Cut(s, ":")
	row, col, ok := Read(one)
	row2, col2, ok2 := Read(other)
	if !ok || !ok2 {
		return 0, 0, 0, 0, false
	}
	return min(row, row2), min(col, col2), max(row, row2), max(col, col2), true
}

// readCol reads the letters that s begins with as a column from 1 on, 0 without any; it gives up past the last column.
func readCol(s string) (col int, rest string) {
	for s != "" && s[0] >= 'A' && s[0] <= 'Z' && col <= api.MaxCols {
		col = col*len(letters) + int(s[0]-'A') + 1
		s = s[1:]
	}
	return col, s
}

// readRow reads the digits that s begins with, no nought ahead of them, as a row from 1 on, 0 without any; it gives up past the last row.
func readRow(s string) (row int, rest string) {
	if strings.HasPrefix(s, "0") {
		return 0, s
	}
	for s != "" && s[0] >= '0' && s[0] <= '9' && row <= api.MaxRows {
		row = row*10 + int(s[0]-'0')
		s = s[1:]
	}
	return row, s
}
