package image

import (
	"bytes"
	"fmt"
	"slices"
	"testing"

	"whittle/api"
)

// room is a laden state whose lists have spare room in which something stands.
func room() api.State {
	s := laden()
	s.Sheets, _ = roomy(s.Sheets, "ROOM", "ROOM")
	s.Cells, _ = roomy(s.Cells, api.Held{Text: "room"}, api.Held{Version: -1})
	s.Views, _ = roomy(s.Views, []api.Area{{Top: 9}}, nil)
	s.Views[0], _ = roomy(s.Views[0], api.Area{Left: -9})
	s.Frames, _ = roomy(s.Frames, api.Flight{Cell: api.Cell{Row: 9}})
	s.Frames[0].Frame.Stack, _ = roomy(s.Frames[0].Frame.Stack, txt("room"))
	s.Frames[0].Frame.Accs, _ = roomy(s.Frames[0].Frame.Accs, api.Acc{Fn: -9})
	return s
}

// wide is a state's text, its lists with their spare room.
func wide(s api.State) string {
	text := fmt.Sprint(s.Sheets[:cap(s.Sheets)], s.Cells[:cap(s.Cells)])
	for _, l := range s.Views[:cap(s.Views)] {
		text += fmt.Sprint(l[:cap(l)])
	}
	for _, f := range s.Frames[:cap(s.Frames)] {
		text += fmt.Sprint(f, f.Frame.Stack[:cap(f.Frame.Stack)], f.Frame.Accs[:cap(f.Frame.Accs)])
	}
	return text
}

// overwrite writes over all lists of a state, spare room too.
func overwrite(s api.State) {
	for _, f := range s.Frames[:cap(s.Frames)] {
		fill(f.Frame.Stack, txt("over"))
		fill(f.Frame.Accs, api.Acc{Fn: 99})
	}
	for _, l := range s.Views[:cap(s.Views)] {
		fill(l, api.Area{Top: 99})
	}
	fill(s.Frames, api.Flight{Cell: api.Cell{Row: 99}})
	fill(s.Views, []api.Area{{Top: 98}})
	fill(s.Cells, api.Held{Text: "over"})
	fill(s.Sheets, "OVER")
}

func TestStateHandedIn(t *testing.T) { // R3: a state is neither changed, spare room included, nor kept; what stands there is not written.
	s := room()
	was := wide(s)
	b, why := Encode(s)
	if wide(s) != was || why != api.OK {
		t.Fatal("what was handed in is changed", why)
	}
	still := bytes.Clone(b)
	overwrite(s)
	if want, _ := Encode(laden()); !bytes.Equal(b, still) || !bytes.Equal(b, want) {
		t.Error("what was handed in is kept")
	}
	s.Version = -1
	was = wide(s)
	if _, why := Encode(s); why != api.ErrImage || wide(s) != was {
		t.Error("what was handed in is changed", why)
	}
}

func TestBytesHandedIn(t *testing.T) { // R3: bytes are neither changed, spare room included, nor kept; what stands there is not read.
	b, _ := Encode(laden())
	short, all := roomy(b, 0, 1, 2, 3)
	was := bytes.Clone(all)
	s, why, _ := Decode(short)
	if !bytes.Equal(all, was) || why != api.OK {
		t.Fatal("what was handed in is changed", why)
	}
	fill(all, 0xff)
	if !sameState(s, laden()) {
		t.Error("what was handed in is kept")
	}
	short, all = roomy(b[:20], b[20:]...)
	unread(t, short, api.ErrImage, 20)
	if !bytes.Equal(all, b) {
		t.Error("what was handed in is changed")
	}
}

func TestLoadedHandedIn(t *testing.T) { // R3: Load keeps nothing of the bytes.
	v := opened(t, "A1", "2", "B1", "=A1&\"text\"", "C1", "=SUM(A1:A9)", "T!A1", "texts")
	v.See(0, api.Area{Bottom: 3})
	ticked(t, v, 0, 6, 6)
	b, was := saved(t, v), saved(t, v)
	w, why, _ := Load(b)
	if !bytes.Equal(b, was) || why != api.OK {
		t.Fatal("what was handed in is changed", why)
	}
	fill(b, 'x')
	if tells(w) != tells(v) {
		t.Error("what was handed in is kept")
	}
	settle(t, v)
	settle(t, w)
	if tells(w) != tells(v) {
		t.Error("what was handed in is kept")
	}
}

func TestEncodedIsNewMemory(t *testing.T) { // R3: bytes that are answered may be written over and grown.
	v := opened(t, "A1", "2", "B1", "=A1")
	for what, ask := range map[string]func() ([]byte, api.Errno){"Encode": func() ([]byte, api.Errno) { return Encode(laden()) }, "Save": func() ([]byte, api.Errno) { return Save(v) }} {
		one, _ := ask()
		two, _ := ask()
		still := bytes.Clone(two)
		fill(one, 0xee)
		one = append(one[:0], 1, 2, 3)
		if three, why := ask(); !bytes.Equal(two, still) || !bytes.Equal(three, still) || why != api.OK || len(one) != 3 {
			t.Errorf("%s: two answers share memory", what)
		}
	}
}

func TestDecodedIsNewMemory(t *testing.T) { // R3: a state's lists may be written over and grown: no two of two answers, and no two of one, share memory.
	b, _ := Encode(laden())
	one, _, _ := Decode(b)
	two, _, _ := Decode(b)
	overwrite(one)
	if three, _, _ := Decode(b); !sameState(two, laden()) || !sameState(three, laden()) {
		t.Fatal("two answers share memory")
	}
	for i := range two.Views {
		fill(append(two.Views[i], api.Area{Left: 98}, api.Area{Left: 99}), api.Area{Left: 97})
		fill(two.Views[i], api.Area{Left: 96})
		two.Views[i] = laden().Views[i]
		if !sameState(two, laden()) {
			t.Fatalf("the viewport of %d shares memory", i)
		}
	}
	for i := range two.Frames {
		f := &two.Frames[i].Frame
		fill(append(slices.Clip(f.Stack), n(98, 1)), n(99, 1))
		fill(f.Stack, n(97, 1))
		f.Stack = laden().Frames[i].Frame.Stack
		fill(f.Accs, api.Acc{Fn: 99})
		f.Accs = laden().Frames[i].Frame.Accs
		if !sameState(two, laden()) {
			t.Fatalf("the frame of %d shares memory", i)
		}
	}
	fill(two.Cells, api.Held{Text: "over"})
	two.Cells = laden().Cells
	fill(two.Sheets, "OVER")
	two.Sheets = laden().Sheets
	if !sameState(two, laden()) {
		t.Fatal("lists share memory")
	}
}

func TestRefusedTellsNothing(t *testing.T) { // R5: with an error all else is zero, whatever was read ahead of the bad byte.
	b, _ := Encode(laden())
	for k := range b {
		s, why, _ := Decode(b[:k])
		if why != api.ErrImage || s.Sheets != nil || s.Cells != nil || s.Views != nil || s.Frames != nil || s.Version != 0 {
			t.Fatal(k, s)
		}
	}
}
