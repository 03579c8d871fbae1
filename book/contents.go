package book

import (
	"strings"

	"whittle/api"
	"whittle/code"
	"whittle/tree"
)

// contents is what stands in a cell.
type contents struct {
	text string
	code []api.Ins // of a formula
}

// marker is what a formula's text begins with.
const marker = "="

func (x contents) kind() int {
	switch {
	case x.text == "":
		return api.Empty
	case strings.HasPrefix(x.text, marker):
		return api.Formula
	}
	return api.Constant
}

// read is the contents that a text is in a cell of the book; or the error, and where in the text.
func (b *Book) read(c api.Cell, text string) (contents, api.Errno, int) {
	if len(text) > api.MaxContent {
		return contents{}, api.ErrLong, 0
	}
	if at := foreign(text); at >= 0 {
		return contents{}, api.ErrText, at
	}
	formula, ok := strings.CutPrefix(text, marker)
	if !ok {
		return contents{text: text}, api.OK, 0
	}
	row, why, at := tree.Parse(formula)
	if why != api.OK {
		return contents{}, why, at + len(marker)
	}
	list, why := code.Flatten(row, c, b.sheets...)
	if why != api.OK {
		return contents{}, why, 0
	}
	return contents{text: text, code: list}, api.OK, 0
}

// foreign is where the first byte stands that may be in no text; -1, if there is none.
func foreign(text string) int {
	for i := range len(text) {
		if text[i] < 32 || text[i] > 126 {
			return i
		}
	}
	return -1
}
