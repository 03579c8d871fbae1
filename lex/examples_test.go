package lex

import (
	"testing"

	"whittle/api"
)

// The chapter's table of examples, row by row.

func TestExamplesScan(t *testing.T) {
	told(t, "A1+2.50", word(0, "A1"), mark(2, "+"), number(3, "2.50"))
	told(t, `"a""b"<>$B$2`, text(0, `a"b`), mark(6, "<>"), word(8, "$B$2"))
}

func TestExamplesPlaces(t *testing.T) {
	refused(t, "1.", api.ErrByte, 1)
	refused(t, ".5", api.ErrByte, 0)
	refused(t, "a_b", api.ErrByte, 1)
	told(t, "#N/A!", fault(0, "#N/A"), mark(4, "!"))
	refused(t, "#N/B", api.ErrByte, 0)
	refused(t, `"ab`, api.ErrQuote, 0)
	told(t, "")
}

func TestExamplesMarks(t *testing.T) {
	told(t, "< =>==", mark(0, "<"), mark(2, "="), mark(3, ">="), mark(5, "="))
}

func TestExamplesText(t *testing.T) {
	if got := Text(word(0, "A1"), mark(0, "+"), text(0, `a"b`)); got != `A1 + "a""b"` {
		t.Error("Text is", got)
	}
}
