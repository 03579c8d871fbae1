package block

import (
	"strings"

	"whittle/api"
	"whittle/inside"
)

const (
	comma  = ","
	quote  = `"`
	quotes = quote + quote // a quote that a field in quotes says
)

// field is a field of some rows: its row's number, its own in it, and its text as it stands there.
type field struct {
	row, col int
	text     string
}

// read is the fields of rows, in their order; or the refusal of the first that is no row. Behind MaxBlock and one it keeps no more of them: that is too many, and rows may have more than there is memory for.
func read(rows []string) ([]field, api.Refusal) {
	var fields []field
	for i, row := range rows {
		fault, ok := readRow(row, func(k int, text string) {
			if len(fields) <= api.MaxBlock {
				fields = append(fields, field{i, k, text})
			}
		})
		if !ok {
			return nil, api.Refusal{Code: api.ErrBlock, Change: i, At: fault}
		}
	}
	return fields, api.Refusal{}
}

// readRow hands on each field of a row, as it stands, with its number; false, and where it can't go on, if it is no row.
func readRow(row string, take func(k int, text string)) (fault int, ok bool) {
	at := 0
	for k := 0; ; k++ {
		n, is := size(row[at:])
		if !is {
			return at + n, false
		}
		take(k, row[at:at+n])
		at += n
		if at == len(row) {
			return 0, true
		}
		at += len(comma)
	}
}

// size is how many bytes the first field of a row has; false, and where it can't go on, if there is none such.
func size(row string) (int, bool) {
	if !strings.HasPrefix(row, quote) {
		text, _, _ := strings.Cut(row, comma)
		return len(text), true
	}
	at := len(quote)
	for {
		n := strings.Index(row[at:], quote)
		if n < 0 {
			return 0, false
		}
		at += n + len(quote)
		if !strings.HasPrefix(row[at:], quote) {
			return at, at == len(row) || strings.HasPrefix(row[at:], comma)
		}
		at += len(quote)
	}
}

// said is what a field says that stands so.
func said(text string) string {
	if !strings.HasPrefix(text, quote) {
		return text
	}
	return strings.ReplaceAll(text[len(quote):len(text)-len(quote)], quotes, quote)
}

// written is an area's rows, of what each of its cells says.
func written(a api.Area, says func(api.Cell) string) []string {
	var rows []string
	var row strings.Builder
	for c := range inside.Cells(a) {
		if c.Col > a.Left {
			row.WriteString(comma)
		}
		writeField(&row, says(c))
		if c.Col == a.Right {
			rows = append(rows, row.String())
			row.Reset()
		}
	}
	return rows
}

// writeField writes a field that says this text.
func writeField(row *strings.Builder, text string) {
	if !strings.HasPrefix(text, quote) && !strings.Contains(text, comma) {
		row.WriteString(text)
		return
	}
	row.WriteString(quote)
	row.WriteString(strings.ReplaceAll(text, quote, quotes))
	row.WriteString(quote)
}
