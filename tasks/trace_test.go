package tasks

import (
	"fmt"
	"slices"
	"strings"
	"testing"

	"whittle/api"
	"whittle/value"
)

// shown are events as texts: what was read and written, by cells' names and values as they are typed; . for a step that does neither.
func shown(l []api.Event) string {
	var s []string
	for _, e := range l {
		switch {
		case e.Reads && e.Wrote:
			s = append(s, "both")
		case e.Reads:
			s = append(s, names(e.Read)+"="+value.Show(e.V))
		case e.Wrote && e.Read == api.Cell{}:
			s = append(s, names(e.Cell)+":="+value.Show(e.V))
		case e == api.Event{Cell: e.Cell}:
			s = append(s, ".")
		default:
			s = append(s, fmt.Sprint(e))
		}
	}
	return strings.Join(s, " ")
}

func TestTraceRefused(t *testing.T) { // Promise 16.7: ErrBudget above MaxTrace, too, though there be nothing to do; not at it. (Below 0, and of no task: TestTickRefused.)
	x := opened(t, "A1", "1", "T!A1", "=SUM(S!A1:A9999)")
	for task := range 3 {
		for _, budget := range []int{api.MaxTrace + 1, 1 << 40, 1<<63 - 1} {
			traceRefused(t, x, task, budget, api.ErrBudget)
		}
	}
	ticked(t, x, 1, 1, 1)
	traceRefused(t, x, 1, api.MaxTrace+1, api.ErrBudget)
	if l := traced(t, x, 0, api.MaxTrace); len(l) != 0 {
		t.Error(l)
	}
	if l := traced(t, x, 1, api.MaxTrace); len(l) != api.MaxTrace {
		t.Error(len(l))
	}
}

func TestTraceOfMost(t *testing.T) { // Promise 16.7: MaxTrace events, and on from there.
	x := opened(t, "A1", "1", "A9999", "5", "T!A1", "=SUM(S!A1:A9999)")
	var l []api.Event
	for range 3 {
		one := traced(t, x, 1, api.MaxTrace)
		l = append(l, one...)
		if len(l) < 9999 && len(one) != api.MaxTrace {
			t.Fatal(len(one))
		}
	}
	if len(l) != 9999+3 {
		t.Fatal(len(l))
	}
	for i, e := range l[1:10000] {
		want := api.Event{Cell: at("T!A1"), Reads: true, Read: api.Cell{Row: i}}
		switch i {
		case 0:
			want.V = n(1)
		case 9998:
			want.V = n(5)
		}
		if e != want {
			t.Fatalf("number %d: %v, want %v", i, e, want)
		}
	}
	if s := shown(l[10000:]); s != ". T!A1:=6" {
		t.Error(s)
	}
}

func TestTraceEvents(t *testing.T) { // Promise 16.7: event by event: reads of cells, of areas, of empty ones, of faults, of other sheets; steps that read none; the last one.
	x := opened(t, "A1", "3", "A2", "x", "A3", "TRUE", "B1", "#N/A", "B3", "2", "T!A1", "'4")
	for text, want := range map[string]string{
		"=5":                        ". :=5",
		"=A1":                       "A1=3 :=3",
		"=Z9":                       "Z9= :=",
		"=A1+Z9":                    "A1=3 Z9= . :=3",
		"=T!A1*A1":                  "T!A1='4 A1=3 . :=12",
		"=B1&1":                     "B1=#N/A . . :=#N/A",
		"=SUM(A1:B2)":               ". A1=3 B1=#N/A . :=#N/A",
		"=COUNTA(A1:A4)":            ". A1=3 A2=x A3=TRUE A4= . :=3",
		"=SUM(A1:A2,A1)":            ". A1=3 A2=x A1=3 . . :=6",
		"=MATCH(2,B1:B9)":           ". . . B1=#N/A B2= B3=2 . :=3",
		"=SUMIF(A1:A3,3,B1:B3)":     ". . . A1=3 B1=#N/A . :=#N/A",
		"=SUMIF(A1:A3,\"x\",B2:B4)": ". . . A1=3 A2=x B3=2 A3=TRUE . :=2",
		"=INDEX(A1:B3,3,2)":         ". . B3=2 :=2",
		"=INDEX(A1:B3,9)":           ". . :=#REF!",
		"=IF(A3,A1,SUM(A1:A9))":     "A3=TRUE . A1=3 . :=3",
		"=IF(A2,1,2)":               "A2=x . :=#VALUE!",
		"=IFERROR(B1,A2)":           "B1=#N/A . A2=x :=x",
		"=CHOOSE(B3,A1,A2,A3)":      "B3=2 . A2=x . :=x",
		"=SUMPRODUCT(A1:A2,B3:B4)":  ". A1=3 B3=2 A2=x . :=6",
		"=ROWS(A1:B9)":              ". :=9",
	} {
		edited(t, x, "D1", text)
		got := strings.ReplaceAll(shown(traced(t, x, 0, 99)), "D1:=", ":=")
		if got != want {
			t.Errorf("%s: %s, want %s", text, got, want)
		}
	}
}

func TestTraceOfManyFrames(t *testing.T) { // Promise 16.7: frames one behind the other in one trace, each event with its own cell; one that is under way goes on.
	x := opened(t, "A1", "2", "B1", "=A1+1", "C1", "=B1*B1", "A2", "=C1")
	ticked(t, x, 0, 1, 1)
	l := traced(t, x, 0, 8)
	if s := shown(l); s != ". . B1:=3 B1=3 B1=3 . C1:=9 C1=9" {
		t.Error(s)
	}
	for i, c := range list("B1 B1 B1 C1 C1 C1 C1 A2") {
		if l[i].Cell != c {
			t.Errorf("number %d is of %s", i, names(l[i].Cell))
		}
	}
	parkedIs(t, x, 0, "A2", 1)
	if s := shown(traced(t, x, 0, 0)); s != "" {
		t.Error(s)
	}
	if s := shown(traced(t, x, 0, api.MaxTrace)); s != "A2:=9" {
		t.Error(s)
	}
	if l := traced(t, x, 0, api.MaxTrace); len(l) != 0 {
		t.Error(l)
	}
}

func TestTraceReadsFresh(t *testing.T) { // Promise 16.11, W4: no step reads a stale cell; what is read are the values under the version at the frame's end, edits of other cells between.
	x := opened(t, "A1", "2", "B1", "=A1+1", "C1", "=SUM(A1:B9)", "A2", "5")
	var l []api.Event
	for i := range 40 {
		one := traced(t, x, 0, 1)
		for _, e := range one {
			if e.Reads && x.Stale(e.Read) {
				t.Fatalf("the stale %s is read", names(e.Read))
			}
			if e.Reads && e.V != x.Value(e.Read) {
				t.Fatalf("%s was read as %v", names(e.Read), e.V)
			}
		}
		l = append(l, one...)
		if i%4 == 3 { // of what none of them reaches
			edited(t, x, "Z9", fmt.Sprint(i), "T!A1", "=S!C1")
			abortedIs(t, x, "")
		}
	}
	if s := shown(l); s != "A1=2 . . B1:=3 . A1=2 B1=3 A2=5 B2= A3= B3= A4= B4= A5= B5= A6= B6= A7= B7= A8= B8= A9= B9= . C1:=10" {
		t.Error(s)
	}
}

func TestTraceIsTick(t *testing.T) { // Promise 16.7: Trace and Tick come to the same state, with any budget, from any frame on.
	for first := range 6 {
		for budget := range 30 {
			one, two := midway(t), midway(t)
			for _, x := range []*Tasks{one, two} {
				x.Tick(2, first)
			}
			for task := range 3 {
				k, why := one.Tick(task, budget)
				if l := traced(t, two, task, budget); len(l) != k || why != api.OK {
					t.Errorf("%d steps, %d events", k, len(l))
				}
			}
			if tellsAll(one) != tellsAll(two) {
				t.Fatalf("Tick and Trace of %d come to something else", budget)
			}
		}
	}
}

func TestTraceFields(t *testing.T) { // Promise 16.7, R5: fields that are not named are zero: of a step that reads none V, of a last one Read and Reads.
	x := opened(t, "A1", "2", "B1", "=A1&\"x\"")
	c := at("B1")
	want := []api.Event{{Cell: c, Reads: true, Read: at("A1"), V: n(2)}, {Cell: c}, {Cell: c}, {Cell: c, Wrote: true, V: txt("2x")}}
	if l := traced(t, x, 0, 9); !slices.Equal(l, want) {
		t.Error(l)
	}
	valueIs(t, x, "B1", txt("2x"))
}
