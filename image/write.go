package image

import (
	"whittle/api"
	"whittle/flights"
)

// writer writes parts one behind the other. It goes on behind what can't be written, and behind the last byte that there is room for: what is wrong behind very much is still found.
type writer struct {
	b     []byte
	long  bool // there were more bytes than an image may have
	wrong bool // something can't be written
}

// need notes something that must hold of what is written.
func (w *writer) need(right bool) { w.wrong = w.wrong || !right }

// room says whether so many bytes more may be written; behind the first that may not, none may.
func (w *writer) room(n int) bool {
	w.long = w.long || n > api.MaxImage-len(w.b)
	return !w.long
}

func (w *writer) byte(b byte) {
	if w.room(1) {
		w.b = append(w.b, b)
	}
}

func (w *writer) number(n int) {
	if n < 0 || n > most {
		w.wrong = true
		return
	}
	for ; n > 127; n >>= 7 {
		w.byte(byte(n&127) | 128)
	}
	w.byte(byte(n))
}

func (w *writer) int(n int) {
	switch {
	case n < -widest || n > widest:
		w.wrong = true
	case n < 0:
		w.number(-2*n - 1)
	default:
		w.number(2 * n)
	}
}

func (w *writer) truth(is bool) {
	if is {
		w.byte(1)
		return
	}
	w.byte(0)
}

func (w *writer) text(s string) {
	w.number(len(s))
	if w.room(len(s)) {
		w.b = append(w.b, s...)
	}
}

func (w *writer) num(x api.Num) {
	w.int(x.N)
	w.number(x.D)
}

func (w *writer) value(v api.Value) {
	w.byte(byte(v.Kind))
	own := api.Value{Kind: v.Kind}
	switch v.Kind {
	case blank:
	case number:
		own.Num = v.Num
		w.num(v.Num)
	case text:
		own.Text = v.Text
		w.text(v.Text)
	case truth:
		own.True = v.True
		w.truth(v.True)
	case fault:
		own.Fault = v.Fault
		w.need(v.Fault >= 0 && v.Fault <= 255)
		w.byte(byte(v.Fault))
	default:
		w.wrong = true
	}
	w.need(v == own)
}

func (w *writer) cell(c api.Cell) {
	w.number(c.Sheet)
	w.number(c.Row)
	w.number(c.Col)
}

func (w *writer) area(a api.Area) {
	w.number(a.Sheet)
	w.number(a.Top)
	w.number(a.Left)
	w.number(a.Bottom)
	w.number(a.Right)
}

func (w *writer) fold(f api.Acc) {
	w.number(f.Fn)
	w.number(f.Count)
	w.num(f.Num)
	w.value(f.V)
	w.value(f.Needle)
	w.truth(f.Has)
	w.truth(f.Full)
	w.truth(f.Wants)
	w.num(f.Held)
}

// writeList writes how many parts there are, and each of them.
func writeList[T any](w *writer, parts []T, write func(T)) {
	w.number(len(parts))
	for _, part := range parts {
		write(part)
	}
}

func (w *writer) areas(l []api.Area) { writeList(w, l, w.area) }

func (w *writer) held(h api.Held) {
	w.cell(h.Cell)
	w.text(h.Text)
	w.truth(h.Stale)
	w.value(h.V)
	w.truth(h.Ever)
	w.number(h.Version)
}

func (w *writer) flight(f api.Flight) {
	w.truth(f.On)
	if !f.On {
		w.need(flights.Off(f))
		return
	}
	w.cell(f.Cell)
	w.number(f.Frame.At)
	w.number(f.Frame.Steps)
	writeList(w, f.Frame.Stack, w.value)
	writeList(w, f.Frame.Accs, w.fold)
	w.number(f.Frame.Scans)
	w.truth(f.Frame.Done)
}

func (w *writer) state(s api.State) {
	w.b = append(w.b, head...)
	writeList(w, s.Sheets, w.text)
	w.number(s.Version)
	writeList(w, s.Cells, w.held)
	writeList(w, s.Views, w.areas)
	writeList(w, s.Frames, w.flight)
}
