package book

import (
	"fmt"
	"maps"
	"slices"
	"strings"
	"testing"

	"whittle/api"
	"whittle/code"
	"whittle/tree"
	"whittle/value"
)

// model is a book in the chapter's words: texts by cells, worked out anew at each question.
type model struct {
	sheets  []string
	version int
	texts   map[api.Cell]string
}

func newModel(sheets ...string) *model {
	return &model{sheets: sheets, texts: map[api.Cell]string{}}
}

func (m *model) has(c api.Cell) bool {
	return c.Sheet >= 0 && c.Sheet < len(m.sheets) && c.Row >= 0 && c.Row < api.MaxRows && c.Col >= 0 && c.Col < api.MaxCols
}

// refusesText is 11.2's last three errors.
func (m *model) refusesText(c api.Cell, text string) (api.Errno, int) {
	if len(text) > api.MaxContent {
		return api.ErrLong, 0
	}
	if i := strings.IndexFunc(text, func(r rune) bool { return r < ' ' || r > '~' }); i >= 0 {
		return api.ErrText, i
	}
	if text == "" || text[0] != '=' {
		return api.OK, 0
	}
	l, why, at := tree.Parse(text[1:])
	if why != api.OK {
		return why, 1 + at
	}
	_, why = code.Flatten(l, c, m.sheets...)
	return why, 0
}

// refuses is 11.2's list, without what it changes.
func (m *model) refuses(changes []api.Change) api.Refusal {
	switch n := len(changes); {
	case n == 0:
		return api.Refusal{Code: api.ErrNone}
	case n > api.MaxBatch:
		return api.Refusal{Code: api.ErrMany}
	}
	for i, x := range changes {
		if !m.has(x.Cell) {
			return api.Refusal{Code: api.ErrCell, Change: i}
		}
		for _, ahead := range changes[:i] {
			if ahead.Cell == x.Cell {
				return api.Refusal{Code: api.ErrTwice, Change: i}
			}
		}
		if why, at := m.refusesText(x.Cell, x.Text); why != api.OK {
			return api.Refusal{Code: why, Change: i, At: at}
		}
	}
	if len(m.behind(changes)) > api.MaxCells {
		return api.Refusal{Code: api.ErrFull}
	}
	return api.Refusal{}
}

// behind is the texts behind the changes.
func (m *model) behind(changes []api.Change) map[api.Cell]string {
	all := maps.Clone(m.texts)
	for _, x := range changes {
		all[x.Cell] = x.Text
	}
	maps.DeleteFunc(all, func(_ api.Cell, text string) bool { return text == "" })
	return all
}

func (m *model) edit(changes []api.Change) api.Refusal {
	r := m.refuses(changes)
	if r.Code == api.OK {
		m.texts = m.behind(changes)
		m.version++
	}
	return r
}

// cells are those of a sheet with contents: row by row.
func (m *model) cells(sheet int) []api.Cell {
	var l []api.Cell
	for c := range m.texts {
		if c.Sheet == sheet {
			l = append(l, c)
		}
	}
	slices.SortFunc(l, func(a, b api.Cell) int { return (a.Row-b.Row)*1000 + a.Col - b.Col })
	return l
}

// tellsCell is as the book's.
func (m *model) tellsCell(c api.Cell) string {
	text := m.texts[c]
	kind, v := api.Empty, value.Blank()
	var list []api.Ins
	switch {
	case text != "" && text[0] == '=':
		kind = api.Formula
		l, _, _ := tree.Parse(text[1:])
		list, _ = code.Flatten(l, c, m.sheets...)
	case text != "":
		kind, v = api.Constant, value.Read(text)
	}
	return fmt.Sprintf("%v %d %q %v %v %v\n", c, kind, text, v, list, code.Uses(list))
}

// agrees holds all that a book tells against the model.
func agrees(t *testing.T, m *model, b *Book) {
	t.Helper()
	if !slices.Equal(b.Sheets(), m.sheets) || b.Version() != m.version || b.Len() != len(m.texts) {
		t.Fatalf("%q, version %d, %d cells; want %q, %d, %d", b.Sheets(), b.Version(), b.Len(), m.sheets, m.version, len(m.texts))
	}
	for sheet := -1; sheet <= len(m.sheets); sheet++ {
		want := m.cells(sheet)
		if l := b.Cells(sheet); !slices.Equal(l, want) {
			t.Fatalf("Cells(%d): %v, want %v", sheet, l, want)
		}
		for _, c := range want {
			agreesAt(t, m, b, c)
		}
	}
	for _, c := range pool() {
		agreesAt(t, m, b, c)
	}
}

func agreesAt(t *testing.T, m *model, b *Book, c api.Cell) {
	t.Helper()
	if got, want := tellsCell(b, c), m.tellsCell(c); got != want {
		t.Fatalf("tells %s, want %s", got, want)
	}
}
