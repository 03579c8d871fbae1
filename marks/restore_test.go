package marks

import (
	"fmt"
	"math/rand"
	"slices"
	"testing"

	"whittle/api"
	"whittle/graph"
)

// held is a state of the sheets S, T and U: names and texts by turns; a ! ahead of a text says Stale of its cell.
func held(l ...string) api.State {
	s := api.State{Sheets: []string{"S", "T", "U"}}
	for i := 0; i < len(l); i += 2 {
		text, stale := l[i+1], false
		if text != "" && text[0] == '!' {
			text, stale = text[1:], true
		}
		s.Cells = append(s.Cells, api.Held{Cell: at(l[i]), Text: text, Stale: stale})
	}
	return s
}

// wrong is a state that must be refused, with this error and no marks.
func wrong(t *testing.T, want api.Errno, s api.State) {
	t.Helper()
	if m, why := Restore(s); m != nil || why != want {
		t.Errorf("Restore(%.300q): %v, %d, want %d", fmt.Sprint(s), m, why, want)
	}
}

func TestRestoreOfNothing(t *testing.T) { // Promise 15.5: sheets without contents.
	m := restored(t, api.State{Sheets: []string{"S", "T", "U"}, Version: 7})
	are(t, m, "", "")
	lastIs(t, m, "", "")
	if m.Version() != 7 || m.Len() != 0 {
		t.Error(m.Version(), m.Len())
	}
	edited(t, m, "A1", "=1")
	lastIs(t, m, "A1", "")
	if m.Version() != 8 {
		t.Error(m.Version())
	}
}

func TestRestoreRight(t *testing.T) { // Promise 15.5: nothing stale, some, all formulas; just these are, and Last tells nothing.
	for _, x := range []struct {
		s            api.State
		stale, ready string
	}{
		{held("A1", "1", "B1", "=A1", "C1", "=B1", "A2", "=A2"), "", ""},
		{held("A1", "1", "B1", "=A1", "C1", "!=B1", "A2", "=A2"), "C1", "C1"},
		{held("A1", "1", "B1", "!=A1", "C1", "!=B1", "A2", "=A2", "B2", "=A2"), "B1 C1", "B1"},
		{held("A1", "1", "B1", "=A1", "T!A1", "!=5", "T!B1", "!=SUM(A1:A9)", "U!A1", "!=T!B1+S!B1"), "T!A1 T!B1 U!A1", "T!A1"},
		{held("A1", "!=2", "B1", "=A1+B1", "C1", "=B1+A1"), "A1", "A1"}, // cyclic ones use a stale cell
		{held("A1", "!=Z9", "B1", "=ROWS(A1:A9)"), "A1", "A1"},          // which is no use
		{held("A1", "!=Z9", "B1", "=T!A1", "T!A1", "=B1"), "A1", "A1"},  // cells beside
	} {
		m := restored(t, x.s)
		are(t, m, x.stale, x.ready)
		lastIs(t, m, "", "")
		settle(t, m)
	}
}

func TestRestoreGoesOn(t *testing.T) { // Promise 15.5: such marks go on under Edit and Done.
	m := restored(t, held("A1", "1", "B1", "!=A1", "C1", "!=B1+B2", "A2", "=A1", "B2", "!=SUM(B1:B1)", "C2", "=C2+B2", "T!A1", "=S!A2"))
	are(t, m, "B1 C1 B2", "B1")
	notReady(t, m, list("C1 B2 A2 C2")...)
	done(t, m, "B1")
	are(t, m, "C1 B2", "B2")
	edited(t, m, "A2", "5")
	lastIs(t, m, "T!A1", "")
	are(t, m, "C1 B2 T!A1", "B2 T!A1")
	edited(t, m, "C2", "=B2")
	lastIs(t, m, "C2", "")
	are(t, m, "C1 B2 C2 T!A1", "B2 T!A1")
	done(t, m, "B2")
	are(t, m, "C1 C2 T!A1", "C1 C2 T!A1")
	edited(t, m, "B1", "=C1")
	lastIs(t, m, "", "C1 C2")
	are(t, m, "T!A1", "T!A1")
}

func TestRestoreRefusedAsGraph(t *testing.T) { // Promises 15.5, 11.6, R2: each error of graph.Restore, ahead of what is said of flags.
	for want, lists := range wrongSheets() {
		for _, sheets := range lists {
			wrong(t, want, api.State{Sheets: sheets})
			wrong(t, want, api.State{Sheets: sheets, Version: -1, Cells: held("A1", "!1", "B1", "!=B1").Cells})
		}
	}
	for _, s := range wrongBooks() {
		if _, why := graph.Restore(s); why != api.ErrState {
			t.Fatalf("graph.Restore(%.300q): %d", fmt.Sprint(s), why)
		}
		wrong(t, api.ErrState, s)
	}
}

// wrongBooks are states of which there is no book, but with flags that might be.
func wrongBooks() []api.State {
	early, late := held("A1", "!=1"), held("A1", "!=1")
	early.Version, late.Version = -1, api.MaxNum+1
	l := []api.State{early, late, held("B1", "!=1", "A1", "1"), held("A1", "!=1", "A1", "!=1"), held("T!A1", "1", "A1", "1"), held("A1", ""), held("A1", "!=B1", "B1", "", "C1", "!=A1")}
	for text := range wrongTexts() {
		l = append(l, held("A1", text), held("A1", "!"+text), held("A1", "!=B1", "B1", text), held("A1", text, "B1", "=A1"))
	}
	for _, c := range strange() {
		s := held("A1", "!=1")
		s.Cells[0].Cell = c
		l = append(l, s)
	}
	full := held()
	for i := range api.MaxCells + 1 {
		full.Cells = append(full.Cells, api.Held{Cell: api.Cell{Row: i}, Text: "=B1", Stale: true})
	}
	return append(l, full)
}

func TestRestoreFull(t *testing.T) { // Promises 15.5, 11.6: MaxCells cells, all stale, at the greatest version.
	full := held()
	for i := range api.MaxCells {
		full.Cells = append(full.Cells, api.Held{Cell: api.Cell{Row: i}, Text: "=" + row(i+1), Stale: true})
	}
	full.Version = api.MaxNum
	m := restored(t, full)
	if m.Count() != api.MaxCells || names(m.ReadyOf(0)) != "A4096" || m.Version() != api.MaxNum {
		t.Error(m.Count(), names(m.ReadyOf(0)))
	}
	for i := range api.MaxCells {
		if why := m.Done(api.Cell{Row: api.MaxCells - 1 - i}); why != api.OK {
			t.Fatal(i, why)
		}
	}
	full.Cells[0].Stale = false
	wrong(t, api.ErrState, full)
}

func TestRestoreOfWrongFlags(t *testing.T) { // Promise 15.5: Stale said of a constant, of a cyclic formula, of one that a fresh formula uses; each alone, and several at once.
	for _, s := range []api.State{
		held("A1", "!1"), held("A1", "!x"), held("A1", "!#N/A"), held("A1", "!'=B1"), held("A1", "=1", "B1", "=A1", "U!B2", "!TRUE"),
		held("A1", "!=A1"), held("A1", "!=B1", "B1", "!=A1"), held("A1", "=B1", "B1", "!=A1"), held("A1", "=A1", "B1", "!=A1"), held("A1", "=SUM(A1:A9)", "B1", "!=SUM(A1:Z9)"), held("A1", "!=IF(FALSE,A1,1)"),
		held("A1", "!=1", "B1", "=A1"), held("A1", "=B1", "B1", "!=1"), held("A1", "!=1", "B1", "=SUM(A1:A9)"), held("A1", "!=1", "B1", "=SUM(A1:Z999)-SUM(B1:B1)", "C1", "=SUM(A1:A65536)"), held("A1", "!=1", "B1", "=IF(TRUE,1,A1)"), held("A1", "!=1", "T!A1", "=S!A1"), held("A1", "=T!A1", "T!A1", "!=1"), held("A1", "!=1", "B1", "!=A1", "C1", "=B1"), held("A1", "!=1", "B1", "=A1", "C1", "!=B1"), held("A1", "!=1", "B1", "=Z9+A1"), held("A1", "!=Z9", "B1", "=INDEX(A1:A2,1)"), held("A1", "!=Z9", "B1", "=SUMIF(Z1:Z2,1,A1:A2)"),
		held("A1", "!1", "B1", "=A1"), held("A1", "!1", "B1", "!=B1", "C1", "=A1"), held("A1", "!=1", "B1", "=A1", "C1", "!5"), held("A1", "!=1", "B1", "!=B1", "C1", "=A1"),
	} {
		wrong(t, api.ErrState, s)
	}
}

func TestRestoreHandedIn(t *testing.T) { // R3, 15.5: a state is neither changed, spare room included, nor kept.
	s := held("A1", "!=T!A1", "B1", "!=A1", "C1", "=T!A1", "T!A1", "5", "T!B1", "!=S!B1")
	sheets, allSheets := roomy(s.Sheets, "ROOM", "ROOM")
	cells, allCells := roomy(s.Cells, api.Held{Cell: at("U!A1"), Text: "=S!A1", Stale: true})
	was, were := slices.Clone(allSheets), slices.Clone(allCells)
	m := restored(t, api.State{Sheets: sheets, Cells: cells, Version: 4})
	if !slices.Equal(allSheets, was) || !slices.Equal(allCells, were) {
		t.Fatal("what was handed in is changed", allSheets, allCells)
	}
	ahead := tellsAll(m)
	fill(allSheets, "OVER")
	fill(allCells, api.Held{Cell: at("B1"), Text: "=A1", Stale: true})
	if tellsAll(m) != ahead {
		t.Error("what was handed in is kept")
	}
	are(t, m, "A1 B1 T!B1", "A1")
	edited(t, m, "T!A1", "6")
	done(t, m, "A1 B1 C1 T!B1")
	if allCells[0].Cell != at("B1") || allSheets[0] != "OVER" {
		t.Error("what was written over was changed")
	}
}

// randomState is that of random contents with random flags, each right by itself most of the time.
func randomState(r *rand.Rand) *model {
	m := newModel()
	for i := range m.texts {
		if r.Intn(3) > 0 {
			m.texts[i] = randomText(r)
		}
	}
	m.relate()
	share := r.Intn(3)
	for i := range m.stale {
		m.stale[i] = m.formula(i) && !m.cyclic(i) && r.Intn(3) < share
	}
	if r.Intn(3) == 0 { // what uses what is stale is so, too
		for range m.stale {
			for i := range m.stale {
				for k := range m.stale {
					m.stale[i] = m.stale[i] || m.uses[i][k] && m.stale[k] && !m.cyclic(i)
				}
			}
		}
	}
	if i := r.Intn(len(m.stale)); r.Intn(2) == 0 && m.texts[i] != "" {
		m.stale[i] = !m.stale[i]
	}
	return m
}

func TestLawRestoreRefuses(t *testing.T) { // Promise 15.5: just the states that the chapter's words take are taken, and go on as they say.
	r := rand.New(rand.NewSource(1505))
	takes, refuses := 0, 0
	for range 1500 {
		want := randomState(r)
		m, why := Restore(want.state())
		if !want.mayBe() {
			refuses++
			if m != nil || why != api.ErrState {
				t.Fatalf("Restore(%q): %d", fmt.Sprint(want.state()), why)
			}
			continue
		}
		takes++
		if m == nil || why != api.OK {
			t.Fatalf("Restore(%q): %d", fmt.Sprint(want.state()), why)
		}
		agrees(t, m, want)
		for range 5 {
			play(t, r, m, want)
		}
	}
	if takes < 300 || refuses < 300 {
		t.Error(takes, refuses)
	}
}
