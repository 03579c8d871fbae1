package image

import (
	"bytes"
	"fmt"
	"math/rand"
	"reflect"
	"slices"
	"testing"

	"whittle/api"
	"whittle/place"
	"whittle/view"
)

func valueOf(s api.State) reflect.Value { return reflect.ValueOf(s) }

// author makes states, whatever they mean; the greater spoils is, the more can't be written.
type author struct {
	*rand.Rand
	spoils int // of 1000
}

func (a author) spoilt() bool { return a.Intn(1000) < a.spoils }

func (a author) number() int {
	if a.spoilt() {
		return noNumbers()[a.Intn(len(noNumbers()))]
	}
	switch a.Intn(8) {
	case 0:
		return a.Intn(1<<62) >> a.Intn(62)
	case 1:
		return 1<<62 - a.Intn(2)
	case 2:
		return 1<<(7*a.Intn(9)) - a.Intn(2)
	}
	return a.Intn(5)
}

func (a author) int() int {
	if a.spoilt() {
		return noInts()[a.Intn(len(noInts()))]
	}
	sign := 1 - 2*a.Intn(2)
	switch a.Intn(6) {
	case 0:
		return sign * (a.Intn(1<<61) >> a.Intn(61))
	case 1:
		return sign * (1<<61 - a.Intn(2))
	case 2:
		return sign * (1<<(7*a.Intn(8)+6) - a.Intn(2))
	}
	return sign * a.Intn(5)
}

func (a author) truth() bool { return a.Intn(2) == 0 }

func (a author) text() string {
	b := make([]byte, a.Intn(4))
	if a.Intn(30) == 0 {
		b = make([]byte, a.Intn(400))
	}
	a.Read(b)
	return string(b)
}

func (a author) num() api.Num { return api.Num{N: a.int(), D: a.number()} }

func (a author) value() api.Value {
	if a.spoilt() {
		return noValues()[a.Intn(len(noValues()))]
	}
	return []api.Value{{}, {Kind: api.Number, Num: a.num()}, txt(a.text()), yes(a.truth()), bad(a.Intn(256))}[a.Intn(5)]
}

func (a author) cell() api.Cell {
	return api.Cell{Sheet: a.number(), Row: a.number(), Col: a.number()}
}

func (a author) area() api.Area {
	return api.Area{Sheet: a.number(), Top: a.number(), Left: a.number(), Bottom: a.number(), Right: a.number()}
}

func (a author) fold() api.Acc {
	return api.Acc{Fn: a.number(), Count: a.number(), Num: a.num(), V: a.value(), Needle: a.value(), Has: a.truth(), Full: a.truth(), Wants: a.truth(), Held: a.num()}
}

func (a author) held() api.Held {
	return api.Held{Cell: a.cell(), Text: a.text(), Stale: a.truth(), V: a.value(), Ever: a.truth(), Version: a.number()}
}

func (a author) flight() api.Flight {
	on := api.Flight{On: true, Cell: a.cell(), Frame: api.Frame{At: a.number(), Steps: a.number(), Stack: some(a, 4, a.value), Accs: some(a, 3, a.fold), Scans: a.number(), Done: a.truth()}}
	switch {
	case a.spoilt():
		on.On = false
	case a.Intn(3) == 0:
		return api.Flight{}
	}
	return on
}

// some are up to most-1 things.
func some[T any](a author, most int, one func() T) []T {
	var l []T
	for range a.Intn(most) {
		l = append(l, one())
	}
	return l
}

func (a author) state() api.State {
	areas := func() []api.Area { return some(a, 3, a.area) }
	return api.State{Sheets: some(a, 4, a.text), Version: a.number(), Cells: some(a, 4, a.held), Views: some(a, 4, areas), Frames: some(a, 4, a.flight)}
}

func TestLawStates(t *testing.T) { // Promises 21.2, 21.3, 21.6, 21.8: states of any kind against the chapter's words; what is written is read as just that state, and cut anywhere refused at its end.
	r := rand.New(rand.NewSource(2101))
	oks, wrongs := 0, 0
	for i := range 20000 {
		s := author{r, []int{0, 30}[i%2]}.state()
		b, why := Encode(s)
		want, wantWhy := wantBytes(s)
		if !bytes.Equal(b, want) || why != wantWhy {
			t.Fatalf("Encode(%s): % x, %d, want % x, %d", brief(s), b, why, want, wantWhy)
		}
		if why != api.OK {
			wrongs++
			continue
		}
		oks++
		if got, why, at := Decode(b); !sameState(got, s) || why != api.OK || at != 0 {
			t.Fatalf("Decode(% x): %s, %d, %d, want %s", b, brief(got), why, at, brief(s))
		}
		if i%20 == 0 {
			cuts(t, b)
		}
	}
	if oks < 8000 || wrongs < 3000 {
		t.Error(oks, wrongs)
	}
}

// reads holds what is read of bytes against the chapter's words; and that what is read is written as just these bytes.
func reads(t *testing.T, b []byte) api.Errno {
	t.Helper()
	s, why, at := Decode(b)
	want, wantWhy, wantAt := wantState(b)
	if !sameState(s, want) || why != wantWhy || at != wantAt {
		t.Fatalf("Decode(% x): %s, %d, %d, want %s, %d, %d", b, brief(s), why, at, brief(want), wantWhy, wantAt)
	}
	if why != api.OK {
		return why
	}
	if again, why := Encode(s); !bytes.Equal(again, b) || why != api.OK {
		t.Fatalf("% x is written as % x, %d", b, again, why)
	}
	return api.OK
}

// bend turns something small of bytes.
func bend(r *rand.Rand, b []byte) []byte {
	b = slices.Clone(b)
	i := r.Intn(len(b) + 1)
	with := []byte{0, 1, 2, 3, 4, 5, 0x7f, 0x80, 0x81, 0xff, byte(r.Intn(256))}[r.Intn(11)]
	switch k := r.Intn(6); {
	case k == 0:
		return slices.Insert(b, i, with)
	case k == 1:
		return slices.Insert(b, i, bytes.Repeat([]byte{0x80}, 7+r.Intn(4))...)
	case i == len(b):
		return append(b, with)
	case k == 2:
		return slices.Delete(b, i, i+1)
	case k == 3:
		return b[:i]
	case k == 4:
		b[i] ^= 1 << r.Intn(8)
		return b
	}
	b[i] = with
	return b
}

func TestLawBytes(t *testing.T) { // Promises 21.4, 21.6: bytes that are bent a little against the chapter's words.
	r := rand.New(rand.NewSource(2102))
	counts := map[api.Errno]int{}
	for range 6000 {
		b, _ := Encode(author{r, 0}.state())
		for range 12 {
			b = bend(r, b)
			counts[reads(t, b)]++
			if r.Intn(4) == 0 {
				b, _ = Encode(author{r, 0}.state())
			}
		}
	}
	if counts[api.OK] < 5000 || counts[api.ErrImage] < 20000 {
		t.Error(counts)
	}
}

func TestLawShortBytes(t *testing.T) { // Promises 21.4, 21.6: all rows of some bytes, not too long, behind several beginnings.
	alphabet := []byte{0, 1, 2, 4, 5, 0x40, 0x41, 0x80, 0xff}
	taken := 0
	for _, x := range []struct {
		ahead []byte
		most  int
	}{
		{nil, 4}, {[]byte("WHT"), 3}, {whole(), 5}, {whole(0), 4}, {whole(0, 0, 1, 0, 0, 0), 5}, {whole(0, 0, 0, 1), 5}, {whole(0, 0, 0, 0, 1), 4}, {frameBytes(0, 0), 5}, {frameBytes(0, 0, 0, 1, 0, 0), 4},
		{versionBytes(0x80, 0x80, 0x80, 0x80, 0x80, 0x80, 0x80)[:12], 5},
	} {
		level := [][]byte{x.ahead}
		for range x.most {
			var next [][]byte
			for _, b := range level {
				for _, with := range alphabet {
					longer := append(slices.Clone(b), with)
					next = append(next, longer)
					if reads(t, longer) == api.OK {
						taken++
					}
				}
			}
			level = next
		}
	}
	if taken < 15 {
		t.Error(taken)
	}
}

// script plays on views; two of one seed play the same on two of them.
type script struct{ *rand.Rand }

// part is a formula over the universe, for its cell number k: it names such as stand ahead most of the time, lest all is cyclic.
func (s script) part(k int) string {
	l := universe()
	named := func() string {
		c := l[s.Intn(k+1)]
		if s.Intn(15) == 0 {
			c = l[s.Intn(len(l))]
		}
		return []string{"S!", "T!", "U!"}[c.Sheet] + place.Name(c)
	}
	over := []string{"S!A1:C1", "S!A1:B2", "T!A1:C2", "U!A1:A9", "IV65530:IV65535"}[s.Intn(5)]
	switch s.Intn(14) {
	case 0:
		return "SUM(" + over + ",MAX(1," + over + "))"
	case 1:
		return "IF(" + named() + ",1," + named() + ")"
	case 2:
		return "COUNTIF(" + over + "," + named() + ")"
	case 3:
		return "SUMIF(" + over + "," + named() + ")"
	case 4:
		return "MATCH(7," + over + ")"
	case 5:
		return "SUMPRODUCT(" + over + "," + over + ")"
	}
	return named()
}

// edit is changes of cells of the universe, most of the time such as are accepted.
func (s script) edit() []api.Change {
	var l []api.Change
	for range 1 + s.Intn(3) {
		k := s.Intn(len(universe()))
		text := []string{"", "7", "x", "TRUE", "-1/3"}[s.Intn(5)]
		if s.Intn(3) > 0 {
			text = "=" + s.part(k) + "+(1+" + s.part(k) + ")"
		}
		if s.Intn(30) == 0 {
			text = "=1+"
		}
		l = append(l, api.Change{Cell: universe()[k], Text: text})
	}
	return l
}

// play does one thing, and tells what it came to.
func (s script) play(v *view.View) string {
	task := s.Intn(4)
	switch s.Intn(8) {
	case 0, 1, 2:
		l := s.edit()
		return fmt.Sprint(l, v.Edit(l...), v.Version())
	case 3:
		var l []api.Area
		for range s.Intn(3) {
			l = append(l, api.Area{Sheet: task, Top: s.Intn(2), Left: s.Intn(2), Bottom: 1 + s.Intn(9), Right: 1 + s.Intn(9)})
		}
		return fmt.Sprint(l, v.See(task, l...))
	case 4:
		events, why := v.Trace(task, s.Intn(20))
		return fmt.Sprint(events, why)
	}
	steps, why := v.Tick(task, []int{s.Intn(12), s.Intn(400)}[s.Intn(2)])
	return fmt.Sprint(steps, why)
}

func TestLawLoaded(t *testing.T) { // Promise 21.7, W8: a view, saved and loaded at any moment of a script, tells the same and goes on alike, whatever comes.
	r := rand.New(rand.NewSource(2103))
	frames, olds := 0, 0
	for range 150 {
		v := opened(t)
		play := script{r}
		for range 10 + r.Intn(50) {
			play.play(v)
		}
		for task := range v.Sheets() {
			v.Tick(task, r.Intn(8))
		}
		for _, f := range v.State().Frames {
			if f.On {
				frames++
			}
		}
		for _, h := range v.State().Cells {
			if h.Stale && h.Ever {
				olds++
			}
		}
		w := again(t, v)
		seed, version := r.Int63(), v.Version()
		one, two := script{rand.New(rand.NewSource(seed))}, script{rand.New(rand.NewSource(seed))}
		for range 12 {
			if a, b := one.play(v), two.play(w); a != b {
				t.Fatal(a, b)
			}
			if a, b := tells(v), tells(w); a != b {
				t.Fatalf("a view tells %s, loaded %s", a, b)
			}
			if a, b := fmt.Sprint(v.Last(), v.Aborted()), fmt.Sprint(w.Last(), w.Aborted()); v.Version() > version && a != b {
				t.Fatal(a, b)
			}
		}
	}
	if frames < 60 || olds < 60 {
		t.Error(frames, olds)
	}
}

func TestLawOftenLoaded(t *testing.T) { // Promise 21.7: a view that is saved and loaded between any two calls goes on as one that is not.
	r := rand.New(rand.NewSource(2104))
	for range 30 {
		v, w := opened(t), opened(t)
		seed := r.Int63()
		one, two := script{rand.New(rand.NewSource(seed))}, script{rand.New(rand.NewSource(seed))}
		for range 40 {
			if a, b := one.play(v), two.play(w); a != b {
				t.Fatal(a, b)
			}
			w = again(t, w)
			if !bytes.Equal(saved(t, v), saved(t, w)) {
				t.Fatal("other bytes")
			}
		}
	}
}

func TestLawApart(t *testing.T) { // R4: a view and the one that was loaded of its bytes have nothing in common.
	r := rand.New(rand.NewSource(2105))
	v := opened(t)
	play := script{r}
	for range 30 {
		play.play(v)
	}
	w := again(t, v)
	for range 60 {
		still := tells(v)
		play.play(w)
		if tells(v) != still {
			t.Fatal("a loaded view shares something with the one that was saved")
		}
		v, w = w, v
	}
}
