package image

import (
	"bytes"
	"fmt"
	"slices"
	"testing"

	"whittle/api"
)

// whole is an image: bytes behind the head.
func whole(b ...byte) []byte { return append([]byte("WHT1"), b...) }

// join is pieces, one behind the other.
func join(pieces ...[]byte) []byte { return slices.Concat(pieces...) }

func n(x, d int) api.Value { return api.Value{Kind: api.Number, Num: api.Num{N: x, D: d}} }

func txt(s string) api.Value { return api.Value{Kind: api.Text, Text: s} }

func yes(b bool) api.Value { return api.Value{Kind: api.Truth, True: b} }

func bad(code int) api.Value { return api.Value{Kind: api.Fault, Fault: code} }

// Small states, each about one thing, and their bytes about the bytes of that thing.

func ofVersion(x int) api.State { return api.State{Version: x} }

func versionBytes(b ...byte) []byte { return join(whole(0), b, []byte{0, 0, 0}) }

func ofHeld(h api.Held) api.State { return api.State{Cells: []api.Held{h}} }

func heldBytes(b ...byte) []byte { return join(whole(0, 0, 1), b, []byte{0, 0}) }

func ofValue(v api.Value) api.State { return ofHeld(api.Held{V: v}) }

func valueBytes(b ...byte) []byte {
	return heldBytes(join([]byte{0, 0, 0, 0, 0}, b, []byte{0, 0})...)
}

func ofArea(a api.Area) api.State { return api.State{Views: [][]api.Area{{a}}} }

func areaBytes(b ...byte) []byte { return join(whole(0, 0, 0, 1, 1), b, []byte{0}) }

func ofFrame(f api.Frame) api.State {
	return api.State{Frames: []api.Flight{{On: true, Frame: f}}}
}

func frameBytes(b ...byte) []byte { return join(whole(0, 0, 0, 0, 1, 1, 0, 0, 0), b) }

func ofFold(f api.Acc) api.State { return ofFrame(api.Frame{Accs: []api.Acc{f}}) }

func foldBytes(b ...byte) []byte {
	return frameBytes(join([]byte{0, 0, 0, 1}, b, []byte{0, 0})...)
}

// sameState holds two states against each other; empty lists are none.
func sameState(a, b api.State) bool {
	return slices.Equal(a.Sheets, b.Sheets) && a.Version == b.Version && slices.Equal(a.Cells, b.Cells) && slices.EqualFunc(a.Views, b.Views, slices.Equal[[]api.Area]) && slices.EqualFunc(a.Frames, b.Frames, sameFlight)
}

func sameFlight(a, b api.Flight) bool {
	f, g := a.Frame, b.Frame
	return a.On == b.On && a.Cell == b.Cell && f.At == g.At && f.Steps == g.Steps && slices.Equal(f.Stack, g.Stack) && slices.Equal(f.Accs, g.Accs) && f.Scans == g.Scans && f.Done == g.Done
}

// brief is a thing as text, not too long.
func brief(x any) string {
	s := fmt.Sprintf("%v", x)
	return s[:min(len(s), 600)]
}

// stands holds that a state has just these bytes, both ways.
func stands(t *testing.T, s api.State, b []byte) {
	t.Helper()
	if got, why := Encode(s); !bytes.Equal(got, b) || why != api.OK {
		t.Errorf("Encode(%s): % x, %d, want % x", brief(s), got, why, b)
	}
	if got, why, at := Decode(b); !sameState(got, s) || why != api.OK || at != 0 {
		t.Errorf("Decode(% x): %s, %d, %d, want %s", b, brief(got), why, at, brief(s))
	}
}

// unwritten holds that a state can't be written, for this reason.
func unwritten(t *testing.T, what string, s api.State, want api.Errno) {
	t.Helper()
	if b, why := Encode(s); b != nil || why != want {
		t.Errorf("%s: Encode: %d bytes, %d, want %d", what, len(b), why, want)
	}
}

// unread holds that bytes are no image, and where not; Load answers that, too.
func unread(t *testing.T, b []byte, want api.Errno, wantAt int) {
	t.Helper()
	if s, why, at := Decode(b); !sameState(s, api.State{}) || why != want || at != wantAt {
		t.Errorf("Decode(% x): %s, %d, %d, want %d, %d", b[:min(len(b), 100)], brief(s), why, at, want, wantAt)
	}
	if v, why, at := Load(b); v != nil || why != want || at != wantAt {
		t.Errorf("Load(% x): %d, %d, want %d, %d", b[:min(len(b), 100)], why, at, want, wantAt)
	}
}

// cuts holds 21.8 of an image: cut anywhere it is refused at its end.
func cuts(t *testing.T, b []byte) {
	t.Helper()
	for k := range b {
		if s, why, at := Decode(b[:k:k]); !sameState(s, api.State{}) || why != api.ErrImage || at != k {
			t.Fatalf("Decode(% x): %s, %d, %d, want %d, %d", b[:k], brief(s), why, at, api.ErrImage, k)
		}
	}
}

// roomy is a list with spare room in which something stands, and the whole of it.
func roomy[E any](l []E, spare ...E) (short, all []E) {
	all = append(slices.Clone(l), spare...)
	return all[:len(l)], all
}

// fill writes over a list, its spare room too.
func fill[E any](l []E, with E) {
	l = l[:cap(l)]
	for i := range l {
		l[i] = with
	}
}

// laden is a state with something in each of its lists, whatever it means.
func laden() api.State {
	fold := api.Acc{Fn: api.FnSumProduct, Count: 2, Num: api.Num{N: -3, D: 4}, Needle: txt("needle"), Has: true, Wants: true, Held: api.Num{N: 64, D: 1}}
	return api.State{
		Sheets: []string{"S", "Tea", ""}, Version: 300,
		Cells: []api.Held{
			{Cell: api.Cell{Col: 1}, Text: "=SUM(A1:A9)", Stale: true, V: n(-7, 3), Ever: true, Version: 299},
			{Cell: api.Cell{Sheet: 1, Row: 65535, Col: 255}, Text: "x", V: txt("x"), Ever: true, Version: 300},
			{Cell: api.Cell{Sheet: 2}, Text: "TRUE", V: yes(true), Ever: true, Version: 300},
			{Cell: api.Cell{Sheet: 2, Row: 1}, Text: "=A2", V: bad(api.FaultCircle), Ever: true, Version: 300},
		},
		Views: [][]api.Area{{{Bottom: 8, Right: 2}, {Top: 1, Left: 2, Bottom: 3, Right: 4}}, nil, {{Sheet: 2, Bottom: 65535, Right: 255}}},
		Frames: []api.Flight{
			{On: true, Cell: api.Cell{Col: 1}, Frame: api.Frame{At: 3, Steps: 129, Stack: []api.Value{{}, n(1, 2), txt("stack")}, Accs: []api.Acc{fold, {Fn: api.FnSum, V: yes(true), Full: true}}, Scans: 4}},
			{},
			{On: true, Frame: api.Frame{Done: true}},
		},
	}
}
