package image

import (
	"fmt"
	"testing"

	"whittle/api"
)

// longest is 2^62 as a number.
func longest() []byte { return []byte{0x80, 0x80, 0x80, 0x80, 0x80, 0x80, 0x80, 0x80, 0x40} }

// beneath is 2^62 - 1 as a number.
func beneath() []byte { return []byte{0xff, 0xff, 0xff, 0xff, 0xff, 0xff, 0xff, 0xff, 0x3f} }

func TestNumbers(t *testing.T) { // Promise 21.1: groups of seven bits, the lowest first, no more than needed, at least one.
	for x, b := range map[int][]byte{
		0: {0}, 1: {1}, 127: {0x7f}, 128: {0x80, 1}, 129: {0x81, 1}, 255: {0xff, 1}, 256: {0x80, 2}, 300: {0xac, 2},
		16383: {0xff, 0x7f}, 16384: {0x80, 0x80, 1}, 1<<21 - 1: {0xff, 0xff, 0x7f}, 1 << 21: {0x80, 0x80, 0x80, 1},
		1<<56 - 1: {0xff, 0xff, 0xff, 0xff, 0xff, 0xff, 0xff, 0x7f}, 1 << 56: {0x80, 0x80, 0x80, 0x80, 0x80, 0x80, 0x80, 0x80, 1},
		1<<62 - 1: beneath(), 1 << 62: longest(),
	} {
		stands(t, ofVersion(x), versionBytes(b...))
	}
	for k := range 9 { // each length, its least and its greatest
		for _, x := range []int{1<<(7*k) - 1, 1 << (7 * k)} {
			length := max(k, 1)
			if x == 1<<(7*k) {
				length = k + 1
			}
			b, _ := Encode(ofVersion(x))
			if got := len(b) - len(versionBytes()); got != length {
				t.Errorf("%d has %d bytes, want %d", x, got, length)
			}
			stands(t, ofVersion(x), b)
		}
	}
}

func TestInts(t *testing.T) { // Promise 21.1: 2n, if n is 0 or more, else -2n - 1.
	for x, b := range map[int][]byte{
		0: {0}, -1: {1}, 1: {2}, -2: {3}, 2: {4}, -3: {5}, 63: {0x7e}, -64: {0x7f}, 64: {0x80, 1}, -65: {0x81, 1},
		1 << 61: longest(), -1 << 61: beneath(), 1<<61 - 1: {0xfe, 0xff, 0xff, 0xff, 0xff, 0xff, 0xff, 0xff, 0x3f}, -1<<61 + 1: {0xfd, 0xff, 0xff, 0xff, 0xff, 0xff, 0xff, 0xff, 0x3f},
		api.MaxNum: numberBytes(2 * api.MaxNum), -api.MaxNum: numberBytes(2*api.MaxNum - 1),
	} {
		stands(t, ofValue(n(x, 1)), valueBytes(join([]byte{1}, b, []byte{1})...))
	}
}

func TestValues(t *testing.T) { // Promise 21.1: the Kind, and what is of it; whether a value is right is not asked.
	for v, b := range map[api.Value][]byte{
		{}:               {0},
		n(1, 2):          {1, 2, 2},
		n(0, 0):          {1, 0, 0},
		n(-2, 4):         {1, 3, 4},
		n(-1, 1<<62):     join([]byte{1, 1}, longest()),
		txt(""):          {2, 0},
		txt("a\x00\xff"): {2, 3, 'a', 0, 0xff},
		yes(false):       {3, 0},
		yes(true):        {3, 1},
		bad(0):           {4, 0},
		bad(3):           {4, 3},
		bad(127):         {4, 0x7f},
		bad(128):         {4, 0x80}, // a byte, and no number
		bad(255):         {4, 0xff},
	} {
		stands(t, ofValue(v), valueBytes(b...))
		stands(t, ofFrame(api.Frame{Stack: []api.Value{v, v}}), frameBytes(join([]byte{0, 0, 2}, b, b, []byte{0, 0, 0})...))
		stands(t, ofFold(api.Acc{V: v}), foldBytes(join([]byte{0, 0, 0, 0}, b, []byte{0, 0, 0, 0, 0, 0})...))
		stands(t, ofFold(api.Acc{Needle: v}), foldBytes(join([]byte{0, 0, 0, 0, 0}, b, []byte{0, 0, 0, 0, 0})...))
	}
}

func TestTexts(t *testing.T) { // Promise 21.1: how many bytes, and these, whatever they are.
	every := make([]byte, 256)
	for i := range every {
		every[i] = byte(i)
	}
	for _, s := range []string{"", "S", "two\nlines", "\x80\xff\x00", "WHT1", string(every), string(make([]byte, 20000))} {
		b := append(numberBytes(len(s)), s...)
		stands(t, api.State{Sheets: []string{s}}, join(whole(1), b, []byte{0, 0, 0, 0}))
		stands(t, ofHeld(api.Held{Text: s}), heldBytes(join([]byte{0, 0, 0}, b, []byte{0, 0, 0, 0})...))
	}
}

func TestCells(t *testing.T) { // Promise 21.1: Sheet, Row, Col.
	stands(t, ofHeld(api.Held{Cell: api.Cell{Sheet: 1, Row: 2, Col: 3}}), heldBytes(1, 2, 3, 0, 0, 0, 0, 0))
	stands(t, ofHeld(api.Held{Cell: api.Cell{Sheet: 300, Row: 65536, Col: 128}}), heldBytes(0xac, 2, 0x80, 0x80, 4, 0x80, 1, 0, 0, 0, 0, 0))
	stands(t, api.State{Frames: []api.Flight{{On: true, Cell: api.Cell{Sheet: 1, Row: 2, Col: 3}}}}, whole(0, 0, 0, 0, 1, 1, 1, 2, 3, 0, 0, 0, 0, 0, 0))
	for _, c := range []api.Cell{{Sheet: 1 << 62}, {Row: 1 << 62}, {Col: 1 << 62}} {
		stands(t, ofHeld(api.Held{Cell: c}), heldBytes(join(numberBytes(c.Sheet), numberBytes(c.Row), numberBytes(c.Col), []byte{0, 0, 0, 0, 0})...))
	}
}

func TestAreas(t *testing.T) { // Promise 21.1: Sheet, Top, Left, Bottom, Right; whether it is right is not asked.
	stands(t, ofArea(api.Area{Sheet: 1, Top: 2, Left: 3, Bottom: 4, Right: 5}), areaBytes(1, 2, 3, 4, 5))
	stands(t, ofArea(api.Area{Sheet: 5, Top: 4, Left: 3, Bottom: 2, Right: 1}), areaBytes(5, 4, 3, 2, 1))
	for i := range 5 {
		l := make([]int, 5)
		l[i] = 1 << 62
		b := make([][]byte, 5)
		for k := range l {
			b[k] = numberBytes(l[k])
		}
		stands(t, ofArea(api.Area{Sheet: l[0], Top: l[1], Left: l[2], Bottom: l[3], Right: l[4]}), areaBytes(join(b...)...))
	}
}

func TestFolds(t *testing.T) { // Promise 21.1: each field of a fold in its place.
	for _, x := range []struct {
		f api.Acc
		b []byte
	}{
		{api.Acc{}, []byte{0, 0, 0, 0, 0, 0, 0, 0, 0, 0, 0}},
		{api.Acc{Fn: 9}, []byte{9, 0, 0, 0, 0, 0, 0, 0, 0, 0, 0}},
		{api.Acc{Count: 9}, []byte{0, 9, 0, 0, 0, 0, 0, 0, 0, 0, 0}},
		{api.Acc{Num: api.Num{N: 9}}, []byte{0, 0, 18, 0, 0, 0, 0, 0, 0, 0, 0}},
		{api.Acc{Num: api.Num{D: 9}}, []byte{0, 0, 0, 9, 0, 0, 0, 0, 0, 0, 0}},
		{api.Acc{V: n(9, 8)}, []byte{0, 0, 0, 0, 1, 18, 8, 0, 0, 0, 0, 0, 0}},
		{api.Acc{Needle: n(9, 8)}, []byte{0, 0, 0, 0, 0, 1, 18, 8, 0, 0, 0, 0, 0}},
		{api.Acc{Has: true}, []byte{0, 0, 0, 0, 0, 0, 1, 0, 0, 0, 0}},
		{api.Acc{Full: true}, []byte{0, 0, 0, 0, 0, 0, 0, 1, 0, 0, 0}},
		{api.Acc{Wants: true}, []byte{0, 0, 0, 0, 0, 0, 0, 0, 1, 0, 0}},
		{api.Acc{Held: api.Num{N: -9}}, []byte{0, 0, 0, 0, 0, 0, 0, 0, 0, 17, 0}},
		{api.Acc{Held: api.Num{D: 9}}, []byte{0, 0, 0, 0, 0, 0, 0, 0, 0, 0, 9}},
	} {
		stands(t, ofFold(x.f), foldBytes(x.b...))
		two := api.Frame{Accs: []api.Acc{x.f, {Fn: 7}}}
		stands(t, ofFrame(two), frameBytes(join([]byte{0, 0, 0, 2}, x.b, []byte{7, 0, 0, 0, 0, 0, 0, 0, 0, 0, 0, 0, 0})...))
	}
}

func TestHelds(t *testing.T) { // Promise 21.2: Cell, Text, Stale, V, Ever, Version.
	stands(t, ofHeld(api.Held{}), heldBytes(0, 0, 0, 0, 0, 0, 0, 0))
	stands(t, ofHeld(api.Held{Stale: true}), heldBytes(0, 0, 0, 0, 1, 0, 0, 0))
	stands(t, ofHeld(api.Held{Ever: true}), heldBytes(0, 0, 0, 0, 0, 0, 1, 0))
	stands(t, ofHeld(api.Held{Version: 200}), heldBytes(0, 0, 0, 0, 0, 0, 0, 0xc8, 1))
	stands(t, ofHeld(api.Held{Cell: api.Cell{Sheet: 1, Row: 2, Col: 3}, Text: "=A1", Stale: true, V: n(4, 5), Ever: true, Version: 6}), heldBytes(1, 2, 3, 3, '=', 'A', '1', 1, 1, 8, 5, 1, 6))
}

func TestFrames(t *testing.T) { // Promise 21.2: On; if it is set Cell, At, Steps, Stack, Accs, Scans, Done.
	stands(t, ofFrame(api.Frame{}), frameBytes(0, 0, 0, 0, 0, 0))
	stands(t, ofFrame(api.Frame{At: 9}), frameBytes(9, 0, 0, 0, 0, 0))
	stands(t, ofFrame(api.Frame{Steps: 9}), frameBytes(0, 9, 0, 0, 0, 0))
	stands(t, ofFrame(api.Frame{Scans: 9}), frameBytes(0, 0, 0, 0, 9, 0))
	stands(t, ofFrame(api.Frame{Done: true}), frameBytes(0, 0, 0, 0, 0, 1))
	stands(t, api.State{Frames: []api.Flight{{}, {On: true}, {}}}, whole(0, 0, 0, 0, 3, 0, 1, 0, 0, 0, 0, 0, 0, 0, 0, 0, 0))
}

func TestStates(t *testing.T) { // Promise 21.2: the head, Sheets, Version, Cells, Views, Frames; lists of none, and of very many.
	stands(t, api.State{}, whole(0, 0, 0, 0, 0))
	stands(t, api.State{Sheets: []string{"S", "", "T"}, Version: 2}, whole(3, 1, 'S', 0, 1, 'T', 2, 0, 0, 0))
	stands(t, api.State{Views: [][]api.Area{nil, {{Right: 1}, {Right: 2}}, nil}}, whole(0, 0, 0, 3, 0, 2, 0, 0, 0, 0, 1, 0, 0, 0, 0, 2, 0, 0))
	empty := api.State{Sheets: []string{}, Cells: []api.Held{}, Views: [][]api.Area{{}}, Frames: []api.Flight{{Frame: api.Frame{Stack: []api.Value{}, Accs: make([]api.Acc, 0, 3)}}}}
	stands(t, empty, whole(0, 0, 0, 1, 0, 1, 0))
	for _, k := range []int{127, 128, 300, 16384} {
		count := numberBytes(k)
		zeros := func(each int) []byte { return make([]byte, each*k) }
		stands(t, api.State{Sheets: make([]string, k)}, join(whole(), count, zeros(1), []byte{0, 0, 0, 0}))
		stands(t, api.State{Cells: make([]api.Held, k)}, join(whole(0, 0), count, zeros(8), []byte{0, 0}))
		stands(t, api.State{Views: make([][]api.Area, k)}, join(whole(0, 0, 0), count, zeros(1), []byte{0}))
		stands(t, api.State{Views: [][]api.Area{make([]api.Area, k)}}, join(whole(0, 0, 0, 1), count, zeros(5), []byte{0}))
		stands(t, api.State{Frames: make([]api.Flight, k)}, join(whole(0, 0, 0, 0), count, zeros(1)))
		stands(t, ofFrame(api.Frame{Stack: make([]api.Value, k)}), frameBytes(join([]byte{0, 0}, count, zeros(1), []byte{0, 0, 0})...))
		stands(t, ofFrame(api.Frame{Accs: make([]api.Acc, k)}), frameBytes(join([]byte{0, 0, 0}, count, zeros(11), []byte{0, 0})...))
	}
}

func TestLaden(t *testing.T) { // Promises 21.2, 21.6, 21.8: a state with something of all, by hand; cut anywhere.
	want := join(whole(3, 1, 'S', 3), []byte("Tea"), []byte{0, 0xac, 2, 4},
		[]byte{0, 0, 1, 11}, []byte("=SUM(A1:A9)"), []byte{1, 1, 13, 3, 1, 0xab, 2},
		[]byte{1, 0xff, 0xff, 3, 0xff, 1, 1, 'x', 0, 2, 1, 'x', 1, 0xac, 2},
		[]byte{2, 0, 0, 4}, []byte("TRUE"), []byte{0, 3, 1, 1, 0xac, 2},
		[]byte{2, 1, 0, 3}, []byte("=A2"), []byte{0, 4, 6, 1, 0xac, 2},
		[]byte{3, 2, 0, 0, 0, 8, 2, 0, 1, 2, 3, 4, 0, 1, 2, 0, 0, 0xff, 0xff, 3, 0xff, 1},
		[]byte{3, 1, 0, 0, 1, 3, 0x81, 1, 3, 0, 1, 2, 2, 2, 5}, []byte("stack"),
		[]byte{2, 24, 2, 5, 4, 0, 2, 6}, []byte("needle"), []byte{1, 0, 1, 0x80, 1, 1},
		[]byte{1, 0, 0, 0, 3, 1, 0, 0, 1, 0, 0, 0, 4, 0},
		[]byte{0, 1, 0, 0, 0, 0, 0, 0, 0, 0, 1})
	stands(t, laden(), want)
	cuts(t, want)
	unread(t, append(want, 0), api.ErrImage, len(want))
	oracle, why := wantBytes(laden())
	if fmt.Sprint(oracle) != fmt.Sprint(want) || why != api.OK {
		t.Error("the words' bytes are others")
	}
}
