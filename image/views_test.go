package image

import (
	"bytes"
	"fmt"
	"strings"
	"testing"

	"whittle/api"
	"whittle/place"
	"whittle/view"
)

// at is a cell by its name, with T! or U! ahead of one of the sheet 1 or 2.
func at(name string) api.Cell {
	sheet := 0
	for i, head := range []string{"T!", "U!"} {
		if rest, ok := strings.CutPrefix(name, head); ok {
			sheet, name = i+1, rest
		}
	}
	row, col, ok := place.Read(name)
	if !ok {
		panic("no cell: " + name)
	}
	return api.Cell{Sheet: sheet, Row: row, Col: col}
}

// opened is a view of the sheets S, T and U in which one edit was done: names and texts by turns.
func opened(t *testing.T, l ...string) *view.View {
	t.Helper()
	v, why := view.New("S", "T", "U")
	if v == nil || why != api.OK {
		t.Fatalf("New: %d", why)
	}
	if len(l) > 0 {
		edited(t, v, l...)
	}
	return v
}

// edited is an edit that must be accepted: names and texts by turns.
func edited(t *testing.T, v *view.View, l ...string) {
	t.Helper()
	var changes []api.Change
	for i := 0; i < len(l); i += 2 {
		changes = append(changes, api.Change{Cell: at(l[i]), Text: l[i+1]})
	}
	if r := v.Edit(changes...); r != (api.Refusal{}) {
		t.Fatalf("Edit(%q): %v", l, r)
	}
}

// ticked is a tick that must do so many steps.
func ticked(t *testing.T, v *view.View, task, budget, want int) {
	t.Helper()
	if got, why := v.Tick(task, budget); got != want || why != api.OK {
		t.Fatalf("Tick(%d, %d): %d, %d, want %d", task, budget, got, why, want)
	}
}

// settle ticks until nothing is stale; the answer is how many steps that took.
func settle(t *testing.T, v *view.View) int {
	t.Helper()
	sum := 0
	for !v.Idle() {
		ahead := sum
		for task := range v.Sheets() {
			k, _ := v.Tick(task, 1<<40)
			sum += k
		}
		if sum == ahead {
			t.Fatalf("nothing to do, and %d are stale", v.Count())
		}
	}
	return sum
}

// saved is what Save tells of a view, which must be its state's bytes.
func saved(t *testing.T, v *view.View) []byte {
	t.Helper()
	b, why := Save(v)
	want, too := wantBytes(v.State())
	if !bytes.Equal(b, want) || why != api.OK || too != api.OK {
		t.Fatalf("Save: % x, %d, want % x, %d", b, why, want, too)
	}
	return b
}

// again is a view saved and loaded, which must tell the same.
func again(t *testing.T, v *view.View) *view.View {
	t.Helper()
	w, why, place := Load(saved(t, v))
	if w == nil || why != api.OK || place != 0 {
		t.Fatalf("Load: %d, %d", why, place)
	}
	if one, two := tells(v), tells(w); one != two {
		t.Fatalf("a view tells %s, loaded %s", one, two)
	}
	return w
}

// universe are the cells of which views are asked.
func universe() []api.Cell {
	var l []api.Cell
	for _, head := range []string{"", "T!", "U!"} {
		for _, name := range strings.Fields("A1 B1 C1 D1 A2 B2 C2 D2 A3 B3 Z9 IV65536") {
			l = append(l, at(head+name))
		}
	}
	return l
}

// tells is all that a view tells, but what the last edit did.
func tells(v *view.View) string {
	var s strings.Builder
	fmt.Fprintln(&s, v.State(), v.Idle(), v.Count(), v.Len(), v.Version())
	for task := range v.Sheets() {
		next, is := v.Next(task)
		parked, on := v.Parked(task)
		shown, why := v.Window(task)
		fmt.Fprintln(&s, v.Cells(task), v.StaleOf(task), v.ReadyOf(task), next, is, parked, on, v.Flight(task), v.Areas(task), shown, why)
	}
	for _, c := range universe() {
		seen, why := v.Read(c)
		fmt.Fprintln(&s, c, seen, why, v.Text(c), v.Code(c), v.Level(c), v.Cyclic(c), v.Reach(c))
	}
	return s.String()
}

func TestSave(t *testing.T) { // Promise 21.5: Save is Encode of the view's State; it turns nothing.
	for _, names := range [][]string{{"S"}, {"S", "T"}, {"S", "LONGNAME", "X1"}} {
		v, _ := view.New(names...)
		want := api.State{Sheets: names, Views: make([][]api.Area, len(names)), Frames: make([]api.Flight, len(names))}
		if b, why := Save(v); !bytes.Equal(b, first(Encode(want))) || why != api.OK {
			t.Errorf("Save: % x, %d", b, why)
		}
	}
	v := opened(t, "A1", "2", "B1", "=A1+3", "C1", "=SUM(A1:B9)", "T!A1", "=S!C1", "U!A1", "=U!A1", "A2", "x")
	v.See(0, api.Area{Bottom: 8, Right: 2}, api.Area{Top: 3, Left: 3, Bottom: 3, Right: 3})
	v.See(2, api.Area{Sheet: 2, Bottom: 65535, Right: 255})
	ticked(t, v, 0, 11, 11)
	edited(t, v, "U!B1", "=1")
	was := tells(v)
	b := saved(t, v)
	if two := saved(t, v); !bytes.Equal(b, two) || tells(v) != was {
		t.Error("a view that was saved tells another thing")
	}
	cuts(t, b)
	ticked(t, v, 0, 1, 1)
	if bytes.Equal(b, saved(t, v)) {
		t.Error("a step is not saved")
	}
}

func first(b []byte, _ api.Errno) []byte { return b }

func TestLoadRefused(t *testing.T) { // Promise 21.5: no view, the error of view.Restore, and 0.
	right := opened(t, "A1", "2", "B1", "=A1+3", "C1", "=SUM(A1:A9)", "T!A1", "=S!C1")
	right.Tick(0, 6)
	for what, x := range map[string]struct {
		turn func(s *api.State)
		want api.Errno
	}{
		"nothing":           {func(s *api.State) { *s = api.State{} }, api.ErrArg},
		"no sheets":         {func(s *api.State) { s.Sheets = nil }, api.ErrArg},
		"many sheets":       {func(s *api.State) { s.Sheets = make([]string, api.MaxSheets+1) }, api.ErrMany},
		"no name":           {func(s *api.State) { s.Sheets[1] = "no name" }, api.ErrLatin},
		"a name twice":      {func(s *api.State) { s.Sheets[1] = "S" }, api.ErrTwice},
		"fewer sheets":      {func(s *api.State) { s.Sheets = s.Sheets[:2] }, api.ErrState},
		"a great version":   {func(s *api.State) { s.Version = api.MaxNum + 1 }, api.ErrState},
		"another version":   {func(s *api.State) { s.Version++ }, api.ErrState},
		"a byte":            {func(s *api.State) { s.Cells[0].Text = "\n" }, api.ErrState},
		"no formula":        {func(s *api.State) { s.Cells[1].Text = "=1+" }, api.ErrState},
		"another value":     {func(s *api.State) { s.Cells[0].V = n(3, 1) }, api.ErrState},
		"no value":          {func(s *api.State) { s.Cells[0].V = n(4, 2) }, api.ErrState},
		"another order":     {func(s *api.State) { s.Cells[0], s.Cells[1] = s.Cells[1], s.Cells[0] }, api.ErrState},
		"not Ever":          {func(s *api.State) { s.Cells[0].Ever = false }, api.ErrState},
		"a view less":       {func(s *api.State) { s.Views = s.Views[:2] }, api.ErrState},
		"a view more":       {func(s *api.State) { s.Views = append(s.Views, nil) }, api.ErrState},
		"another's area":    {func(s *api.State) { s.Views[0] = []api.Area{{Sheet: 1}} }, api.ErrState},
		"many areas":        {func(s *api.State) { s.Views[0] = make([]api.Area, api.MaxSee+1) }, api.ErrState},
		"a frame less":      {func(s *api.State) { s.Frames = s.Frames[:2] }, api.ErrState},
		"another's frame":   {func(s *api.State) { s.Frames[0], s.Frames[1] = s.Frames[1], s.Frames[0] }, api.ErrState},
		"a frame of A1":     {func(s *api.State) { s.Frames[0].Cell = api.Cell{} }, api.ErrState},
		"a frame elsewhere": {func(s *api.State) { s.Frames[0].Frame.At = 0 }, api.ErrState},
		"more on the stack": {func(s *api.State) { s.Frames[0].Frame.Stack = make([]api.Value, 1) }, api.ErrState},
		"no steps":          {func(s *api.State) { s.Frames[0].Frame.Steps = 0 }, api.ErrState},
		"done":              {func(s *api.State) { s.Frames[0].Frame.Done = true }, api.ErrState},
	} {
		s := right.State()
		x.turn(&s)
		_, too := view.Restore(s)
		b, code := Encode(s)
		if v, why, place := Load(b); v != nil || why != x.want || place != 0 || too != x.want || code != api.OK {
			t.Errorf("%s: %d, %d, want %d", what, why, place, x.want)
		}
	}
	again(t, right)
}

func TestLoadOfBadBytes(t *testing.T) { // Promise 21.5: no view, and Decode's error and place, whatever the state would mean.
	b := saved(t, opened(t, "A1", "2", "B1", "=A1+3"))
	unread(t, append(b, 0), api.ErrImage, len(b))
	unread(t, b[:len(b)-1], api.ErrImage, len(b)-1)
	unread(t, append(whole(17), make([]byte, 17)...), api.ErrImage, 22)
	unread(t, append(b, make([]byte, api.MaxImage)...), api.ErrLong, 0)
	cuts(t, b)
}

// formulas are such as have frames of every kind.
func formulas() []string {
	return []string{
		"=A1+A2*(A3-(1+B1))", "=SUM(A1:B3)", "=SUM(1,A1:A3,MAX(2,B1:B3,MIN(A1:B2)))", "=MATCH(5,A1:A9)", "=COUNTIF(A1:B3,2)", "=SUMIF(A1:A3,2,B1:B3)", "=LOOKUP(2,A1:A3,B1:B3)",
		"=SUMPRODUCT(A1:A3,B1:B3)", "=CONCAT(A1:B3,\"-\")", "=IF(A1>1,SUM(A1:A3),0)", "=IFERROR(A1/0,SUM(B1:B3))", "=CHOOSE(A1,1,SUM(A1:B3),3)", "=INDEX(A1:B3,A1,2)", "=AND(A1:A3,TRUE)",
		"=AVERAGE(A1:B3)", "=1+(2+(3+(4+SUM(A1:A3))))", "=FIRST(A1:B3)&LAST(A1:B3)", "=LEFT(A3&B3,2)", "=NA()", "=-1/3&TRUE", "=GCD(A1:A3)+SUMSQ(A1:A3)", "=XOR(A1,A2,B1:B2)", "=COUNTA(A1:B9)",
	}
}

func TestMidFlight(t *testing.T) { // Promise 21.7, W8: behind each single step of a frame a view is saved and loaded, and goes on as the view does, to the same end.
	taken := 0
	for _, text := range formulas() {
		v, why := view.New("S", "T", "U")
		if why != api.OK {
			t.Fatal(why)
		}
		edited(t, v, "A1", "2", "A2", "-1/3", "A3", "x", "B1", "TRUE", "B2", "2", "B3", "#N/A")
		if r := v.Edit(api.Change{Cell: at("D1"), Text: text}); r.Code != api.OK {
			continue
		}
		taken++
		whole := settle(t, again(t, v))
		for k := 1; !v.Idle(); k++ {
			ticked(t, v, 0, 1, 1)
			w := again(t, v)
			if got := settle(t, w); got != whole-k {
				t.Fatalf("%s behind %d steps: %d more, want %d", text, k, got, whole-k)
			}
			settled := again(t, v)
			settle(t, settled)
			if tells(settled) != tells(w) {
				t.Fatal(text)
			}
		}
		w := again(t, v)
		seen, _ := v.Read(at("D1"))
		if loaded, _ := w.Read(at("D1")); loaded != seen || !seen.Fresh {
			t.Errorf("%s: %v, loaded %v", text, seen, loaded)
		}
	}
	if taken < len(formulas())-3 {
		t.Errorf("%d formulas are taken", taken)
	}
}

func TestDoneByOthers(t *testing.T) { // Promise 21.5, R7: of a cell that others have Done while its frame was under way there is a state that view.Restore refuses: Save writes it, Load is refused.
	v := opened(t, "A1", "2", "B1", "=A1+3")
	ticked(t, v, 0, 2, 2)
	again(t, v)
	if why := v.Done(at("B1")); why != api.OK {
		t.Fatal(why)
	}
	if w, why, place := Load(saved(t, v)); w != nil || why != api.ErrState || place != 0 {
		t.Error(why, place)
	}
}

// full is a view with as many cells as may be, of contents of so many bytes.
func full(t *testing.T, length int) *view.View {
	t.Helper()
	v, _ := view.New("S")
	for i := 0; i < api.MaxCells; i += api.MaxBatch {
		var changes []api.Change
		for k := range api.MaxBatch {
			changes = append(changes, api.Change{Cell: api.Cell{Row: i + k}, Text: strings.Repeat("x", length)})
		}
		if r := v.Edit(changes...); r.Code != api.OK {
			t.Fatal(r)
		}
	}
	return v
}

func TestFullViews(t *testing.T) { // Promise 21.5: a view that has more than MaxImage bytes is refused; one of just so many is saved, and loaded.
	v := full(t, api.MaxContent)
	if b, why := Save(v); b != nil || why != api.ErrLong {
		t.Errorf("%d bytes, %d", len(b), why)
	}
	all, ok := wantSize(v)
	for row := 0; all > api.MaxImage; row++ {
		length := max(300, api.MaxContent-(all-api.MaxImage))
		if r := v.Edit(api.Change{Cell: api.Cell{Row: row}, Text: strings.Repeat("x", length)}); r.Code != api.OK {
			t.Fatal(r)
		}
		all, ok = wantSize(v)
	}
	if !ok || all != api.MaxImage {
		t.Fatalf("%d bytes", all)
	}
	b, why := Save(v)
	if len(b) != api.MaxImage || why != api.OK {
		t.Fatalf("%d bytes, %d", len(b), why)
	}
	w, why, place := Load(b)
	if w == nil || why != api.OK || place != 0 || !sameState(w.State(), v.State()) {
		t.Fatal(why, place)
	}
	v.See(0, api.Area{})
	if b, why := Save(v); b != nil || why != api.ErrLong {
		t.Errorf("%d bytes, %d", len(b), why)
	}
}

// wantSize is how many bytes a view has.
func wantSize(v *view.View) (int, bool) {
	b, ok := bytesOf("state", valueOf(v.State()))
	return len(b) + 4, ok
}
