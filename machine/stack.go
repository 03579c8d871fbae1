package machine

import "whittle/api"

// Stack has values.
type Stack struct{ values []api.Value }

// Depth is how many there are.
func (s *Stack) Depth() int { return len(s.values) }

// Top is the top one; false, if there is none.
func (s *Stack) Top() (api.Value, bool) {
	if len(s.values) == 0 {
		return api.Value{}, false
	}
	return s.values[len(s.values)-1], true
}

// put puts a value on top.
func (s *Stack) put(v api.Value) { s.values = append(s.values, v) }

// tops are the top n values, from below.
func (s *Stack) tops(n int) []api.Value { return s.values[len(s.values)-n:] }

// take takes the top n values off. They are told from below, and stand till the next put.
func (s *Stack) take(n int) []api.Value {
	off := s.tops(n)
	s.values = s.values[:len(s.values)-n]
	return off
}
