package image

import (
	"bytes"
	"fmt"
	"strings"
	"testing"

	"whittle/api"
)

const least, greatest = -1 << 63, 1<<63 - 1

// noNumbers are such as can't be written as numbers.
func noNumbers() []int {
	return []int{-1, -2, -128, least, least + 1, 1<<62 + 1, 1<<62 + 128, greatest, -1 << 62}
}

// noInts are such as can't be written as ints.
func noInts() []int {
	return []int{1<<61 + 1, -1<<61 - 1, 1 << 62, -1 << 62, -1<<62 - 1, -1<<62 + 1, least, least + 1, greatest}
}

// noValues are such as can't be written.
func noValues() []api.Value {
	l := []api.Value{
		{Text: "x"}, {True: true}, {Fault: 1}, {Num: api.Num{N: 1}}, {Num: api.Num{D: 1}},
		{Kind: api.Number, Text: "x"}, {Kind: api.Number, True: true}, {Kind: api.Number, Fault: 1},
		{Kind: api.Text, Num: api.Num{D: 1}}, {Kind: api.Text, Num: api.Num{N: -1}, Text: "x"}, {Kind: api.Text, True: true}, {Kind: api.Text, Text: "x", Fault: -1},
		{Kind: api.Truth, Num: api.Num{N: 1}}, {Kind: api.Truth, True: true, Text: "x"}, {Kind: api.Truth, Fault: 300},
		{Kind: api.Fault, Fault: 1, Num: api.Num{D: 1}}, {Kind: api.Fault, Text: "x"}, {Kind: api.Fault, Fault: 1, True: true},
	}
	for _, k := range []int{5, 6, -1, 256, 257, 260, 1 << 32, -256, least, greatest} {
		l = append(l, api.Value{Kind: k})
	}
	for _, k := range []int{-1, 256, 257, 512, least, greatest} {
		l = append(l, bad(k))
	}
	for _, k := range noInts() {
		l = append(l, n(k, 1))
	}
	for _, k := range noNumbers() {
		l = append(l, n(1, k))
	}
	return l
}

// somewhere is a value in each place of a state that has one.
func somewhere(v api.Value) []api.State {
	l := []api.State{ofValue(v), ofFrame(api.Frame{Stack: []api.Value{v}}), ofFrame(api.Frame{Stack: []api.Value{{}, n(1, 1), v, {}}}), ofFold(api.Acc{V: v}), ofFold(api.Acc{Needle: v})}
	s := laden()
	s.Cells[2].V = v
	return append(l, s)
}

func TestNoNumbers(t *testing.T) { // Promise 21.3: a number below 0 or above 2^62, wherever there is one.
	for _, k := range noNumbers() {
		for i, s := range []api.State{
			{Version: k},
			ofHeld(api.Held{Cell: api.Cell{Sheet: k}}), ofHeld(api.Held{Cell: api.Cell{Row: k}}), ofHeld(api.Held{Cell: api.Cell{Col: k}}), ofHeld(api.Held{Version: k}),
			ofArea(api.Area{Sheet: k}), ofArea(api.Area{Top: k}), ofArea(api.Area{Left: k}), ofArea(api.Area{Bottom: k}), ofArea(api.Area{Right: k}),
			{Views: [][]api.Area{nil, {{}, {Left: k}}}},
			{Frames: []api.Flight{{On: true, Cell: api.Cell{Sheet: k}}}}, {Frames: []api.Flight{{}, {On: true, Cell: api.Cell{Row: k}}}}, {Frames: []api.Flight{{On: true, Cell: api.Cell{Col: k}}, {}}},
			ofFrame(api.Frame{At: k}), ofFrame(api.Frame{Steps: k}), ofFrame(api.Frame{Scans: k}),
			ofFold(api.Acc{Fn: k}), ofFold(api.Acc{Count: k}), ofFold(api.Acc{Num: api.Num{D: k}}), ofFold(api.Acc{Held: api.Num{D: k}}),
		} {
			unwritten(t, fmt.Sprint(k, " at ", i), s, api.ErrImage)
		}
	}
}

func TestNoInts(t *testing.T) { // Promise 21.3: an int out of its bounds, wherever there is one.
	for _, k := range noInts() {
		for i, s := range append(somewhere(n(k, 1)), ofFold(api.Acc{Num: api.Num{N: k}}), ofFold(api.Acc{Held: api.Num{N: k}})) {
			unwritten(t, fmt.Sprint(k, " at ", i), s, api.ErrImage)
		}
	}
}

func TestNoValues(t *testing.T) { // Promise 21.3: another Kind, another Fault, another field than the Kind's.
	for _, v := range noValues() {
		for i, s := range somewhere(v) {
			unwritten(t, fmt.Sprint(v, " at ", i), s, api.ErrImage)
		}
	}
}

func TestNoFlights(t *testing.T) { // Promise 21.3: a Frame without On with any other field that is not zero; empty lists are none.
	for i, f := range []api.Flight{
		{Cell: api.Cell{Sheet: 1}}, {Cell: api.Cell{Row: 1}}, {Cell: api.Cell{Col: 1}}, {Cell: api.Cell{Col: -1}},
		{Frame: api.Frame{At: 1}}, {Frame: api.Frame{At: -1}}, {Frame: api.Frame{Steps: 1}}, {Frame: api.Frame{Scans: 1}}, {Frame: api.Frame{Done: true}},
		{Frame: api.Frame{Stack: make([]api.Value, 1)}}, {Frame: api.Frame{Accs: make([]api.Acc, 1)}},
	} {
		for k := range 3 {
			s := api.State{Frames: make([]api.Flight, 3)}
			s.Frames[k] = f
			unwritten(t, fmt.Sprint(i, " at ", k), s, api.ErrImage)
			s.Frames[k].On = true
			if _, why := Encode(s); (why == api.OK) != (f.Cell.Col >= 0 && f.Frame.At >= 0) {
				t.Errorf("number %d with On: %d", i, why)
			}
		}
	}
	none := api.State{Frames: []api.Flight{{Frame: api.Frame{Stack: []api.Value{}, Accs: []api.Acc{}}}}}
	if b, why := Encode(none); !bytes.Equal(b, whole(0, 0, 0, 0, 1, 0)) || why != api.OK {
		t.Errorf("% x, %d", b, why)
	}
}

func TestMeaningIsNotAsked(t *testing.T) { // Promise 21.3: what the state means is not asked; Load is refused then.
	for _, s := range []api.State{
		{}, {Sheets: []string{"S", "S", "no name"}}, {Sheets: make([]string, 99)}, {Version: 1 << 62},
		{Cells: []api.Held{{Cell: api.Cell{Sheet: 99}, Text: "=1+", Stale: true, V: n(2, 4), Version: 7}, {}}},
		ofValue(n(1, 0)), ofValue(n(2*api.MaxNum, 2*api.MaxDen)), ofValue(txt("\n")), ofValue(bad(0)), ofValue(bad(77)),
		{Views: [][]api.Area{make([]api.Area, 99)}}, ofArea(api.Area{Top: 9, Left: 9}),
		{Frames: []api.Flight{{On: true, Frame: api.Frame{At: 77, Steps: 1, Stack: make([]api.Value, 99), Accs: []api.Acc{{Fn: 99}}, Done: true}}}},
		laden(),
	} {
		b, why := Encode(s)
		if why != api.OK {
			t.Errorf("%s: %d", brief(s), why)
		}
		if got, why, at := Decode(b); !sameState(got, s) || why != api.OK || at != 0 {
			t.Errorf("%s: read as %s, %d, %d", brief(s), brief(got), why, at)
		}
		if v, why, at := Load(b); v != nil || why == api.OK || why == api.ErrImage || at != 0 {
			t.Errorf("%s: Load: %d, %d", brief(s), why, at)
		}
	}
}

// asLong is a state that has just so many bytes, about MaxImage: a little one less grows by a byte each.
func asLong(t *testing.T, size int, pad func(k int) api.State) api.State {
	t.Helper()
	k := api.MaxImage - 99
	b, why := Encode(pad(k))
	if why != api.OK {
		t.Fatal(why)
	}
	return pad(k + size - len(b))
}

// pads are states that grow with a number, a byte each or nearly.
func pads() map[string]func(k int) api.State {
	long := func(k int) string { return strings.Repeat("x", k) }
	return map[string]func(k int) api.State{
		"a sheet":    func(k int) api.State { return api.State{Sheets: []string{long(k)}} },
		"contents":   func(k int) api.State { return ofHeld(api.Held{Text: long(k)}) },
		"a value":    func(k int) api.State { return ofFrame(api.Frame{Stack: []api.Value{txt(long(k))}, Steps: 300}) },
		"a needle":   func(k int) api.State { return ofFold(api.Acc{Needle: txt(long(k))}) },
		"sheets":     func(k int) api.State { return api.State{Sheets: make([]string, k)} },
		"views":      func(k int) api.State { return api.State{Views: make([][]api.Area, k)} },
		"two sheets": func(k int) api.State { return api.State{Sheets: []string{long(k / 2), long(k - k/2)}} },
	}
}

func TestLong(t *testing.T) { // Promise 21.3: MaxImage bytes are taken, one more is ErrLong, whatever is at the end.
	for what, pad := range pads() {
		s := asLong(t, api.MaxImage, pad)
		b, why := Encode(s)
		if len(b) != api.MaxImage || why != api.OK {
			t.Errorf("%s: %d bytes, %d", what, len(b), why)
		}
		if got, why, at := Decode(b); !sameState(got, s) || why != api.OK || at != 0 {
			t.Errorf("%s: read otherwise: %d, %d", what, why, at)
		}
		for _, more := range []int{1, 2, 9} {
			unwritten(t, what, asLong(t, api.MaxImage+more, pad), api.ErrLong)
		}
	}
	unwritten(t, "very long", api.State{Sheets: []string{strings.Repeat("x", 9*api.MaxImage)}, Version: 9}, api.ErrLong)
	unwritten(t, "a short text behind a long one", api.State{Sheets: []string{strings.Repeat("x", api.MaxImage), ""}}, api.ErrLong)
}

func TestLongByLastByte(t *testing.T) { // Promise 21.3: the byte that is too much may be of any part.
	s := asLong(t, api.MaxImage, pads()["contents"])
	for i, grow := range []func(s *api.State){
		func(s *api.State) { s.Version = 128 },
		func(s *api.State) { s.Cells[0].V = yes(false) },
		func(s *api.State) { s.Cells[0].Version = 1 << 62 },
		func(s *api.State) { s.Views = make([][]api.Area, 1) },
		func(s *api.State) { s.Frames = make([]api.Flight, 1) },
		func(s *api.State) { s.Sheets = []string{""} },
	} {
		more := s
		more.Cells = append([]api.Held(nil), s.Cells...)
		grow(&more)
		unwritten(t, fmt.Sprint("number ", i), more, api.ErrLong)
	}
}

func TestImageAheadOfLong(t *testing.T) { // Promise 21.3, R2: what can't be written is told ahead of too many bytes, wherever it stands.
	long := strings.Repeat("x", api.MaxImage+9)
	for what, s := range map[string]api.State{
		"behind":      {Sheets: []string{long}, Frames: []api.Flight{{}, {Frame: api.Frame{Done: true}}}},
		"Version":     {Sheets: []string{long}, Version: -1},
		"ahead":       {Version: 1<<62 + 1, Cells: []api.Held{{Text: long}}},
		"within":      ofHeld(api.Held{Cell: api.Cell{Col: -1}, Text: long}),
		"a value":     ofValue(api.Value{Kind: api.Number, Text: long}),
		"its text":    ofValue(api.Value{Kind: api.Text, Text: long, True: true}),
		"the last":    {Sheets: []string{long}, Frames: []api.Flight{{On: true, Frame: api.Frame{Scans: -1}}}},
		"very many":   {Sheets: make([]string, api.MaxImage+9), Views: [][]api.Area{{{Right: -1}}}},
		"of the many": {Views: [][]api.Area{nil, append(make([]api.Area, api.MaxImage/5), api.Area{Top: -1})}},
	} {
		unwritten(t, what, s, api.ErrImage)
	}
}
