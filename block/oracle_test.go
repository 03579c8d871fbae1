package block

import (
	"fmt"
	"testing"

	"whittle/api"
	"whittle/move"
	"whittle/undo"
	"whittle/value"
)

// The chapter's words told once more, by plain loops: what each call asks of an undo, be it changes or a refusal.

// hasCell: is it a cell of the book?
func hasCell(u *undo.Undo, c api.Cell) bool {
	_, why := u.Read(c)
	return why == api.OK
}

// cellsOf are a block's cells, in their order; none, if it is no block.
func cellsOf(u *undo.Undo, a api.Area) []api.Cell {
	first, last := api.Cell{Sheet: a.Sheet, Row: a.Top, Col: a.Left}, api.Cell{Sheet: a.Sheet, Row: a.Bottom, Col: a.Right}
	if !hasCell(u, first) || !hasCell(u, last) {
		return nil
	}
	var l []api.Cell
	for row := a.Top; row <= a.Bottom; row++ {
		for col := a.Left; col <= a.Right; col++ {
			l = append(l, api.Cell{Sheet: a.Sheet, Row: row, Col: col})
			if len(l) > api.MaxBlock {
				return nil
			}
		}
	}
	return l
}

func askCopy(u *undo.Undo, from api.Area, to api.Cell) ([]api.Change, api.Refusal) {
	cells := cellsOf(u, from)
	if len(cells) == 0 {
		return nil, api.Refusal{Code: api.ErrBlock}
	}
	if !hasCell(u, to) {
		return nil, api.Refusal{Code: api.ErrCell}
	}
	there := cellsOf(u, api.Area{Sheet: to.Sheet, Top: to.Row, Left: to.Col, Bottom: to.Row + from.Bottom - from.Top, Right: to.Col + from.Right - from.Left})
	if len(there) == 0 {
		return nil, api.Refusal{Code: api.ErrBlock}
	}
	var l []api.Change
	for k, c := range cells {
		text, why := move.Copy(u.Text(c), to.Row-from.Top, to.Col-from.Left)
		if why != api.OK {
			return nil, api.Refusal{Code: why, Change: k}
		}
		l = append(l, api.Change{Cell: there[k], Text: text})
	}
	return l, api.Refusal{}
}

func askFill(u *undo.Undo, from api.Cell, to api.Area) ([]api.Change, api.Refusal) {
	if !hasCell(u, from) {
		return nil, api.Refusal{Code: api.ErrCell}
	}
	cells := cellsOf(u, to)
	if len(cells) == 0 {
		return nil, api.Refusal{Code: api.ErrBlock}
	}
	var l []api.Change
	for _, c := range cells {
		if c == from {
			continue
		}
		text, why := move.Copy(u.Text(from), c.Row-from.Row, c.Col-from.Col)
		if why != api.OK {
			return nil, api.Refusal{Code: why, Change: len(l)}
		}
		l = append(l, api.Change{Cell: c, Text: text})
	}
	return l, api.Refusal{}
}

func askClear(u *undo.Undo, a api.Area) ([]api.Change, api.Refusal) {
	cells := cellsOf(u, a)
	if len(cells) == 0 {
		return nil, api.Refusal{Code: api.ErrBlock}
	}
	var l []api.Change
	for _, c := range cells {
		l = append(l, api.Change{Cell: c})
	}
	return l, api.Refusal{}
}

func askLay(u *undo.Undo, at api.Cell, rows []string) ([]api.Change, api.Refusal) {
	if !hasCell(u, at) {
		return nil, api.Refusal{Code: api.ErrCell}
	}
	var l []api.Change
	outside := false
	for i, row := range rows {
		fields, fault := byBytes(row)
		if fault >= 0 {
			return nil, api.Refusal{Code: api.ErrBlock, Change: i, At: fault}
		}
		for k, text := range fields {
			c := api.Cell{Sheet: at.Sheet, Row: at.Row + i, Col: at.Col + k}
			outside = outside || !hasCell(u, c)
			l = append(l, api.Change{Cell: c, Text: text})
		}
	}
	if outside || len(l) > api.MaxBlock {
		return nil, api.Refusal{Code: api.ErrBlock}
	}
	return l, api.Refusal{}
}

// byBytes is what a row's fields say, read byte by byte; or where it can't go on, -1 if it can.
func byBytes(row string) (fields []string, fault int) {
	const fresh, bare, within, ended = 0, 1, 2, 3
	state, began, text := fresh, 0, ""
	for i := range len(row) {
		b := row[i]
		switch {
		case state == within && b == '"':
			state = ended
		case state == within:
			text += row[i : i+1]
		case b == ',':
			fields, state, text = append(fields, text), fresh, ""
		case state == ended && b == '"':
			state, text = within, text+`"`
		case state == ended:
			return nil, i
		case state == fresh && b == '"':
			state, began = within, i
		default:
			state, text = bare, text+row[i:i+1]
		}
	}
	if state == within {
		return nil, began
	}
	return append(fields, text), -1
}

// asRows are the rows of a block, of what each of its cells says.
func asRows(cells []api.Cell, says func(api.Cell) string) []string {
	var rows []string
	for i, c := range cells {
		switch {
		case i == 0 || c.Row != cells[i-1].Row:
			rows = append(rows, asField(says(c)))
		default:
			rows[len(rows)-1] += "," + asField(says(c))
		}
	}
	return rows
}

// asField is a field that says a text, written byte by byte.
func asField(text string) string {
	inQuotes := text != "" && text[0] == '"'
	s := ""
	for i := range len(text) {
		inQuotes = inQuotes || text[i] == ','
		s += text[i : i+1]
		if text[i] == '"' {
			s += `"`
		}
	}
	if !inQuotes {
		return text
	}
	return `"` + s + `"`
}

// shows is what a cell shows.
func shows(u *undo.Undo, c api.Cell) string {
	if !u.Stale(c) {
		return value.Show(u.Value(c))
	}
	if told, _ := u.Read(c); told.Ever {
		return "~" + value.Show(told.V)
	}
	return "?"
}

// twins are two undos that go through the same: one by this package's calls, the other by the edits that the words ask for.
type twins struct {
	*testing.T
	u, beside *undo.Undo
}

func newTwins(t *testing.T, l ...string) twins {
	t.Helper()
	return twins{t, opened(t, l...), opened(t, l...)}
}

// agree holds what a call has answered, and all that was brought about, against what the words ask for.
func (x twins) agree(what string, got api.Refusal, changes []api.Change, want api.Refusal) {
	x.Helper()
	if want.Code == api.OK {
		want = x.beside.Edit(changes...)
	}
	if got != want {
		x.Fatalf("%s: %v, want %v", what, got, want)
	}
	x.alike(what)
}

// alike holds that both have been brought to the same.
func (x twins) alike(what string) {
	x.Helper()
	if one, other := tells(x.u), tells(x.beside); one != other {
		x.Fatalf("%s: %s, want %s", what, one, other)
	}
}

func (x twins) copy(from api.Area, to api.Cell) {
	x.Helper()
	changes, want := askCopy(x.beside, from, to)
	x.agree(fmt.Sprint("Copy", from, to), Copy(x.u, from, to), changes, want)
}

func (x twins) fill(from api.Cell, to api.Area) {
	x.Helper()
	changes, want := askFill(x.beside, from, to)
	x.agree(fmt.Sprint("Fill", from, to), Fill(x.u, from, to), changes, want)
}

func (x twins) clear(a api.Area) {
	x.Helper()
	changes, want := askClear(x.beside, a)
	x.agree(fmt.Sprint("Clear", a), Clear(x.u, a), changes, want)
}

func (x twins) lay(at api.Cell, rows ...string) {
	x.Helper()
	changes, want := askLay(x.beside, at, rows)
	x.agree(fmt.Sprintf("Lay(%v, %.300q)", at, rows), Lay(x.u, at, rows...), changes, want)
}

// read holds Text and Table of an area.
func (x twins) read(a api.Area) {
	x.Helper()
	var want api.Errno
	cells := cellsOf(x.beside, a)
	if len(cells) == 0 {
		want = api.ErrBlock
	}
	text, why := Text(x.u, a)
	if wanted := asRows(cells, x.beside.Text); why != want || fmt.Sprintf("%q", text) != fmt.Sprintf("%q", wanted) {
		x.Fatalf("Text(%v): %q, %d, want %q, %d", a, text, why, wanted, want)
	}
	table, why := Table(x.u, a)
	if wanted := asRows(cells, func(c api.Cell) string { return shows(x.beside, c) }); why != want || fmt.Sprintf("%q", table) != fmt.Sprintf("%q", wanted) {
		x.Fatalf("Table(%v): %q, %d, want %q, %d", a, table, why, wanted, want)
	}
	x.alike("reading")
}
