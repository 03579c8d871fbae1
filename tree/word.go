package tree

import (
	"strconv"
	"strings"

	"whittle/api"
	"whittle/place"
)

// fix stands ahead of a column or a row that is fixed.
const fix = "$"

func isFunctionName(s string) bool { return isName(s, isCapital) }

func isSheetName(s string) bool { return isName(s, isLetter) }

// isName: is s of letters and digits, neither too short nor too long, a letter first?
func isName(s string, letter func(byte) bool) bool {
	if s == "" || len(s) > api.MaxName || !letter(s[0]) {
		return false
	}
	for i := range len(s) {
		if !letter(s[i]) && !isDigit(s[i]) {
			return false
		}
	}
	return true
}

func isCapital(b byte) bool { return b >= 'A' && b <= 'Z' }

func isLetter(b byte) bool { return isCapital(b) || b >= 'a' && b <= 'z' }

func isDigit(b byte) bool { return b >= '0' && b <= '9' }

// readCellWord is the cell that a word names; false, if it names none.
func readCellWord(word string) (api.Ref, bool) {
	row, col, ok := place.Read(strings.ReplaceAll(word, fix, ""))
	r := api.Ref{Row: row, Col: col, FixCol: strings.HasPrefix(word, fix)}
	r.FixRow = strings.Contains(strings.TrimPrefix(word, fix), fix)
	// A cell has one word, so that each $ in another place than its own is found by writing it.
	if !ok || cellWord(r) != word {
		return api.Ref{}, false
	}
	return r, true
}

// cellWord is the word of a cell, without its sheet.
func cellWord(r api.Ref) string {
	return fixed(r.FixCol) + place.Col(r.Col) + fixed(r.FixRow) + strconv.Itoa(r.Row+1)
}

func fixed(yes bool) string {
	if yes {
		return fix
	}
	return ""
}
