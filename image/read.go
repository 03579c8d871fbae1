package image

import "whittle/api"

// badAt is what reading gives up with: where.
type badAt int

// reader goes through bytes from the left. At the first one that can't stand there it panics with a badAt.
type reader struct {
	b  []byte
	at int
}

// take is the next n bytes.
func (r *reader) take(n int) []byte {
	r.need(n)
	r.at += n
	return r.b[r.at-n : r.at]
}

// need gives up at the end, if less than n bytes are left.
func (r *reader) need(n int) {
	if n > len(r.b)-r.at {
		panic(badAt(len(r.b)))
	}
}

func (r *reader) byte() byte { return r.take(1)[0] }

// below is the next byte, which must be less than end.
func (r *reader) below(end byte) byte {
	at := r.at
	b := r.byte()
	if b >= end {
		panic(badAt(at))
	}
	return b
}

func (r *reader) number() int {
	at, n := r.at, 0
	for group := range groups {
		b := r.byte()
		n |= int(b&127) << (7 * group)
		if b > 127 {
			continue
		}
		if n > most || b == 0 && group > 0 {
			break
		}
		return n
	}
	panic(badAt(at))
}

// count is the number of parts that follow, each of a byte at least.
func (r *reader) count() int {
	n := r.number()
	r.need(n)
	return n
}

func (r *reader) int() int {
	n := r.number()
	if n%2 == 0 {
		return n / 2
	}
	return -(n / 2) - 1
}

func (r *reader) truth() bool { return r.below(2) == 1 }

func (r *reader) text() string { return string(r.take(r.count())) }

func (r *reader) num() api.Num { return api.Num{N: r.int(), D: r.number()} }

func (r *reader) value() api.Value {
	v := api.Value{Kind: int(r.below(fault + 1))}
	switch v.Kind {
	case number:
		v.Num = r.num()
	case text:
		v.Text = r.text()
	case truth:
		v.True = r.truth()
	case fault:
		v.Fault = int(r.byte())
	}
	return v
}

// Of the fields of a literal, those that stand ahead are read ahead.

func (r *reader) cell() api.Cell {
	return api.Cell{Sheet: r.number(), Row: r.number(), Col: r.number()}
}

func (r *reader) area() api.Area {
	return api.Area{Sheet: r.number(), Top: r.number(), Left: r.number(), Bottom: r.number(), Right: r.number()}
}

func (r *reader) fold() api.Acc {
	return api.Acc{Fn: r.number(), Count: r.number(), Num: r.num(), V: r.value(), Needle: r.value(), Has: r.truth(), Full: r.truth(), Wants: r.truth(), Held: r.num()}
}

// readList is as many parts as are said to follow. (Room is made as they come: how many there are may be a lie.)
func readList[T any](r *reader, part func() T) []T {
	var l []T
	for range r.count() {
		l = append(l, part())
	}
	return l
}

func (r *reader) areas() []api.Area { return readList(r, r.area) }

func (r *reader) held() api.Held {
	return api.Held{Cell: r.cell(), Text: r.text(), Stale: r.truth(), V: r.value(), Ever: r.truth(), Version: r.number()}
}

func (r *reader) flight() api.Flight {
	if !r.truth() {
		return api.Flight{}
	}
	return api.Flight{On: true, Cell: r.cell(), Frame: r.frame()}
}

func (r *reader) frame() api.Frame {
	return api.Frame{At: r.number(), Steps: r.number(), Stack: readList(r, r.value), Accs: readList(r, r.fold), Scans: r.number(), Done: r.truth()}
}

func (r *reader) state() api.State {
	return api.State{Sheets: readList(r, r.text), Version: r.number(), Cells: readList(r, r.held), Views: readList(r, r.areas), Frames: readList(r, r.flight)}
}

// all is the state that all bytes are.
func (r *reader) all() api.State {
	if string(r.take(len(head))) != head {
		panic(badAt(0))
	}
	s := r.state()
	if r.at < len(r.b) {
		panic(badAt(r.at))
	}
	return s
}
