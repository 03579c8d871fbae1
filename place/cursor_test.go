package place

import (
	"math"
	"slices"
	"testing"

	"whittle/api"
)

// stands holds where a span stands: how many are passed and left, and which cell comes next.
func stands(t *testing.T, s *Span, cells []api.Cell, passed int) {
	t.Helper()
	if s.Passed() != passed || s.Left() != len(cells)-passed {
		t.Fatal("passed", s.Passed(), "left", s.Left(), "of", len(cells), "behind", passed)
	}
	at, ok := s.Peek()
	if passed == len(cells) {
		if at != (api.Cell{}) || ok {
			t.Fatal("Peek at the end is", at, ok)
		}
	} else if at != cells[passed] || !ok {
		t.Fatal("Peek is", at, ok, "at", passed)
	}
}

// Promise 3.6: cell by cell; at the end it stays.
func TestNext(t *testing.T) {
	for _, a := range smallAreas(2) {
		c, cells := Over(a), cellsOf(a)
		for k, want := range cells {
			stands(t, &c.Span, cells, k)
			stands(t, &c.Span, cells, k) // a Peek passes none
			if at, ok := c.Next(); at != want || !ok {
				t.Fatal("Next is", at, ok, "at", k)
			}
		}
		for range 3 {
			stands(t, &c.Span, cells, len(cells))
			if at, ok := c.Next(); at != (api.Cell{}) || ok {
				t.Fatal("Next at the end is", at, ok)
			}
		}
	}
}

func TestSkip(t *testing.T) {
	for _, a := range smallAreas(1) {
		cells := cellsOf(a)
		for first := range len(cells) + 1 {
			for n := -2; n < len(cells)+3; n++ {
				c := Over(a)
				if got := c.Skip(first); got != first {
					t.Fatal("Skip of", first, "is", got)
				}
				want := min(max(n, 0), len(cells)-first)
				if got := c.Skip(n); got != want {
					t.Fatal("Skip of", n, "behind", first, "is", got)
				}
				stands(t, &c.Span, cells, first+want)
			}
		}
	}
}

func TestSkipFar(t *testing.T) {
	size := 1 << 24
	all := area(0, 0, api.MaxRows-1, api.MaxCols-1)
	c := Over(all)
	for _, n := range []int{0, -1, math.MinInt, math.MinInt + 1} {
		if got := c.Skip(n); got != 0 || c.Passed() != 0 {
			t.Error("Skip of", n, "is", got)
		}
	}
	if got := c.Skip(size - 1); got != size-1 || c.Left() != 1 {
		t.Error("Skip to the last is", got)
	}
	d, e := c, c
	if at, ok := c.Next(); at != cell(api.MaxRows-1, api.MaxCols-1) || !ok || c.Left() != 0 {
		t.Error("the last is", at, ok)
	}
	if got := d.Skip(math.MaxInt); got != 1 || d.Passed() != size || d.Left() != 0 {
		t.Error("Skip of the greatest int is", got)
	}
	if got := d.Skip(math.MaxInt); got != 0 || d.Passed() != size {
		t.Error("Skip at the end is", got)
	}
	if got := e.Skip(math.MinInt); got != 0 || e.Left() != 1 {
		t.Error("Skip of the least int is", got)
	}
}

// A copy goes on by itself; so do two cursors over one area.
func TestCursorCopy(t *testing.T) {
	a := area(1, 1, 3, 3)
	c, cells := Over(a), cellsOf(a)
	c.Skip(2)
	d, other := c, Over(a)
	span := c.Span
	d.Next()
	d.Skip(3)
	other.Next()
	stands(t, &c.Span, cells, 2)
	stands(t, &d.Span, cells, 6)
	stands(t, &other.Span, cells, 1)
	c.Next()
	stands(t, &c.Span, cells, 3)
	stands(t, &d.Span, cells, 6)
	stands(t, &span, cells, 2)
}

// The zero Cursor, the zero Span, and what goes over no area have come to their end.
func TestCursorOverNone(t *testing.T) {
	list := []Cursor{{}, {Span{}}}
	for _, a := range wrongAreas() {
		list = append(list, Over(a))
	}
	for _, c := range list {
		for range 2 {
			stands(t, &c.Span, nil, 0)
			if at, ok := c.Next(); at != (api.Cell{}) || ok {
				t.Fatal("Next is", at, ok)
			}
			for _, n := range []int{1, 5, -1, 0, math.MaxInt, math.MinInt} {
				if got := c.Skip(n); got != 0 {
					t.Fatal("Skip of", n, "is", got)
				}
			}
		}
	}
	var s Span
	stands(t, &s, nil, 0)
}

// A cursor's calls are at hand as values, too, the promoted ones among them.
func TestCursorMethodValues(t *testing.T) {
	a := area(4, 4, 5, 6)
	c := Over(a)
	next, left := c.Next, c.Left
	var got []api.Cell
	for left() > 0 {
		at, _ := next()
		got = append(got, at)
	}
	if !slices.Equal(got, cellsOf(a)) {
		t.Error("gone through:", got)
	}
}
