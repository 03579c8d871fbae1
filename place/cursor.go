package place

import "whittle/api"

// Span is an area that is gone through, and how far. The zero one has come to its end.
type Span struct {
	area api.Area
	// The size is kept, though it follows from the area: the zero Area is A1's, and the zero Span has no cell.
	passed, size int
}

// Peek is the cell that comes next; false at the end.
func (s *Span) Peek() (api.Cell, bool) {
	if s.Left() == 0 {
		return api.Cell{}, false
	}
	return numbered(s.area, s.passed), true
}

// Passed is how many cells were passed.
func (s *Span) Passed() int { return s.passed }

// Left is how many cells are left.
func (s *Span) Left() int { return s.size - s.passed }

// Cursor is a span, and goes on in it.
type Cursor struct{ Span }

// Over is a cursor at an area's first cell; at its end, if it is no area.
func Over(a api.Area) Cursor {
	if !RightArea(a) {
		return Cursor{}
	}
	return Cursor{Span{area: a, size: Size(a)}}
}

// Next is the cell that comes next, which is passed then; false at the end.
func (c *Cursor) Next() (api.Cell, bool) {
	at, ok := c.Peek()
	if ok {
		c.passed++
	}
	return at, ok
}

// Skip passes as many cells as n says, or as are left, and answers how many.
func (c *Cursor) Skip(n int) int {
	n = min(max(n, 0), c.Left())
	c.passed += n
	return n
}
