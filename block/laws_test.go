package block

import (
	"fmt"
	"math/rand"
	"slices"
	"strconv"
	"strings"
	"testing"

	"whittle/api"
	"whittle/place"
	"whittle/tree"
)

// randomCell is one of a corner of two sheets.
func randomCell(r *rand.Rand) api.Cell {
	return api.Cell{Sheet: r.Intn(2), Row: r.Intn(6), Col: r.Intn(5)}
}

// randomArea is an area of that corner.
func randomArea(r *rand.Rand) api.Area {
	c := randomCell(r)
	return api.Area{Sheet: c.Sheet, Top: c.Row, Left: c.Col, Bottom: c.Row + r.Intn(4), Right: c.Col + r.Intn(4)}
}

// odd is an area that is nearly none, or a little else.
func odd(r *rand.Rand, a api.Area) api.Area {
	switch r.Intn(12) {
	case 0:
		a.Top, a.Bottom = a.Bottom, a.Top
	case 1:
		a.Sheet += r.Intn(3) - 1
	case 2:
		a.Bottom += r.Intn(200)
	case 3:
		a.Left -= r.Intn(2)
	}
	return a
}

// randomCorner is a cell as a formula names it, fixed or not.
func randomCorner(r *rand.Rand) string {
	c := randomCell(r)
	fix := []string{"", "$"}
	return fix[r.Intn(2)] + place.Col(c.Col) + fix[r.Intn(2)] + strconv.Itoa(c.Row+1)
}

// randomRef is a cell or an area as a formula names it.
func randomRef(r *rand.Rand) string {
	s := []string{"", "", "S!", "T!"}[r.Intn(4)] + randomCorner(r)
	if r.Intn(3) == 0 {
		s += ":" + randomCorner(r)
	}
	return s
}

// randomText is contents of any kind, with commas and quotes, too.
func randomText(r *rand.Rand) string {
	switch r.Intn(8) {
	case 0, 1:
		return ""
	case 2:
		return []string{"1", "2", "a,b", `"a"`, `x"y`, `","`, "'=A1", "'12", "#N/A", "'", " 1"}[r.Intn(11)]
	case 3:
		return "=ROWS(" + randomCorner(r) + ":" + randomCorner(r) + ")"
	case 4:
		return `= "a,"" b" & ` + randomCorner(r)
	}
	s := "=SUM(" + randomRef(r)
	for r.Intn(2) == 0 {
		s += "," + randomRef(r)
	}
	return s + ")"
}

// randomRows are rows of contents; if they may be odd, some are none.
func randomRows(r *rand.Rand) []string {
	var rows []string
	for range r.Intn(4) {
		row := asField(randomText(r))
		for r.Intn(2) == 0 {
			row += "," + asField(randomText(r))
		}
		switch r.Intn(20) {
		case 0:
			row += `,"a`
		case 1:
			row += `,"a"b`
		case 2:
			row += ",=1+"
		case 3:
			row += strings.Repeat(",x", r.Intn(300))
		}
		rows = append(rows, row)
	}
	return rows
}

// play does one thing with both, and holds what is answered.
func (x twins) play(r *rand.Rand) {
	x.Helper()
	c, a := randomCell(r), randomArea(r)
	switch r.Intn(12) {
	case 0, 1:
		x.copy(odd(r, a), c)
	case 2:
		x.copy(a, api.Cell{Sheet: a.Sheet, Row: a.Top + r.Intn(3) - 1, Col: a.Left + r.Intn(3) - 1})
	case 3, 4:
		x.fill(c, odd(r, a))
	case 5:
		x.clear(odd(r, a))
	case 6:
		x.lay(c, randomRows(r)...)
	case 7, 8:
		change := api.Change{Cell: c, Text: randomText(r)}
		x.agree(fmt.Sprint("Edit", change), x.u.Edit(change), []api.Change{change}, api.Refusal{})
	case 9:
		if x.u.Undo() != x.beside.Undo() {
			x.Fatal("Undo")
		}
	default:
		task, budget := r.Intn(2), r.Intn(12)
		one, _ := x.u.Tick(task, budget)
		if other, _ := x.beside.Tick(task, budget); one != other {
			x.Fatal(one, other)
		}
	}
}

func TestScripts(t *testing.T) { // Promises 20.1 to 20.6, 20.9, R4: whatever was done ahead, each call does the one edit that the words ask for, and one Undo takes it back.
	taken, refused := 0, 0
	for seed := range int64(60) {
		r := rand.New(rand.NewSource(seed))
		x := newTwins(t)
		for range 60 {
			ahead, version := contents(x.u), x.u.Version()
			x.play(r)
			x.read(odd(r, randomArea(r)))
			if x.u.Version() == version {
				refused++
				continue
			}
			taken++
			if back, _ := x.u.Steps(); back == 0 || r.Intn(3) > 0 {
				continue
			}
			if _, forth := x.u.Steps(); forth > 0 { // it was an Undo itself
				continue
			}
			if x.u.Undo() != x.beside.Undo() || contents(x.u) != ahead {
				t.Fatalf("taken back: %s, want %s", contents(x.u), ahead)
			}
			if x.u.Redo() != x.beside.Redo() {
				t.Fatal("Redo")
			}
			x.alike("Redo")
		}
	}
	if taken < 1000 || refused < 500 {
		t.Error(taken, refused)
	}
}

// scattered is an undo's corner full of contents of all kinds.
func scattered(t *testing.T, r *rand.Rand) twins {
	x := newTwins(t)
	for range 60 {
		change := api.Change{Cell: randomCell(r), Text: randomText(r)}
		x.agree(fmt.Sprint("Edit", change), x.u.Edit(change), []api.Change{change}, api.Refusal{})
	}
	return x
}

func TestLayOfText(t *testing.T) { // Promise 20.7: Lay of what Text told of an area, at its first cell, leaves all contents as they are.
	for seed := range int64(40) {
		r := rand.New(rand.NewSource(seed))
		x := scattered(t, r)
		for range 10 {
			a := randomArea(r)
			ahead, version := contents(x.u), x.u.Version()
			rows, why := Text(x.u, a)
			if why != api.OK {
				t.Fatal(why)
			}
			x.lay(api.Cell{Sheet: a.Sheet, Row: a.Top, Col: a.Left}, rows...)
			if contents(x.u) != ahead || x.u.Version() != version+1 {
				t.Fatalf("Lay of %q: %s, want %s", rows, contents(x.u), ahead)
			}
		}
	}
}

func TestLayOfTextElsewhere(t *testing.T) { // Promise 20.7: and at another cell it lays the same contents.
	for seed := range int64(40) {
		r := rand.New(rand.NewSource(seed))
		u := scattered(t, r).u
		a := randomArea(r)
		rows, _ := Text(u, a)
		laid(t, u, "M30", rows...)
		again, why := Text(u, api.Area{Top: 29, Left: 12, Bottom: 29 + a.Bottom - a.Top, Right: 12 + a.Right - a.Left})
		if why != api.OK || !slices.Equal(rows, again) {
			t.Errorf("%q, laid, is told as %q, %d", rows, again, why)
		}
	}
}

func TestCopyOntoItself(t *testing.T) { // Promise 20.7: it leaves what formulas are read as, and constants as they stand.
	for seed := range int64(40) {
		r := rand.New(rand.NewSource(seed))
		u := scattered(t, r).u
		held := map[api.Cell]string{}
		for sheet := range 2 {
			for _, c := range u.Cells(sheet) {
				held[c] = u.Text(c)
			}
		}
		for range 10 {
			a := randomArea(r)
			if got := Copy(u, a, api.Cell{Sheet: a.Sheet, Row: a.Top, Col: a.Left}); got != (api.Refusal{}) {
				t.Fatal(got)
			}
		}
		for c, ahead := range held {
			behind := u.Text(c)
			formula, is := strings.CutPrefix(ahead, "=")
			if !is && behind != ahead {
				t.Errorf("%q has become %q", ahead, behind)
			}
			one, _, _ := tree.Parse(formula)
			other, _, _ := tree.Parse(strings.TrimPrefix(behind, "="))
			if is && !slices.Equal(one, other) {
				t.Errorf("%q has become %q", ahead, behind)
			}
		}
		if u.Len() != len(held) {
			t.Error(u.Len(), len(held))
		}
	}
}

// further are the areas that the refs of a formula name, if it is copied by some rows and columns into a cell of a sheet; false, if one is lost.
func further(t *testing.T, text string, sheet, rows, cols int) ([]api.Area, bool) {
	t.Helper()
	l, why, _ := tree.Parse(text[1:])
	if why != api.OK {
		t.Fatal(text, why)
	}
	moved := func(ref api.Ref) api.Cell {
		if !ref.FixRow {
			ref.Row += rows
		}
		if !ref.FixCol {
			ref.Col += cols
		}
		return api.Cell{Sheet: sheet, Row: ref.Row, Col: ref.Col}
	}
	var areas []api.Area
	for _, n := range l {
		if n.Kind != api.NodeCell && n.Kind != api.NodeArea {
			continue
		}
		corners := []api.Cell{moved(n.A)}
		if n.Kind == api.NodeArea {
			corners = append(corners, moved(n.B))
		}
		a, ok := place.Hull(corners...)
		if !ok {
			return nil, false
		}
		switch n.A.Sheet {
		case "S":
			a.Sheet = 0
		case "T":
			a.Sheet = 1
		}
		areas = append(areas, a)
	}
	return areas, true
}

func TestUsesFurther(t *testing.T) { // Promise 20.8: what is copied or filled uses, by its parts that are not fixed, the cells as many rows and columns further.
	moved := 0
	for seed := range int64(400) {
		r := rand.New(rand.NewSource(seed))
		text := "=SUM(" + randomRef(r) + ")"
		u := opened(t, "T!D4", text)
		from, to := at("T!D4"), randomCell(r)
		want, ok := further(t, text, to.Sheet, to.Row-from.Row, to.Col-from.Col)
		if !ok || to == from {
			continue
		}
		moved++
		if got := Copy(u, area("T!D4:D4"), to); got != (api.Refusal{}) {
			t.Fatal(got)
		}
		if got := u.Uses(to); !slices.Equal(got, want) {
			t.Errorf("%s at T!D4, copied to %v, uses %v, want %v", text, to, got, want)
		}
		one, _ := place.One(to)
		if got := Fill(u, from, one); got != (api.Refusal{}) {
			t.Fatal(got)
		}
		if got := u.Uses(to); !slices.Equal(got, want) {
			t.Errorf("%s at T!D4, filled into %v, uses %v, want %v", text, to, got, want)
		}
	}
	if moved < 200 {
		t.Error(moved)
	}
}
