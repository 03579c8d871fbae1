package graph

// set is things of one kind, each once.
type set[T comparable] map[T]struct{}

// add says whether it is new.
func (s set[T]) add(x T) bool {
	if _, old := s[x]; old {
		return false
	}
	s[x] = struct{}{}
	return true
}

// sets are sets by keys; none of them is empty.
type sets[K, T comparable] map[K]set[T]

// add lays x into the sets of these keys.
func (ss sets[K, T]) add(x T, keys ...K) {
	for _, key := range keys {
		if ss[key] == nil {
			ss[key] = set[T]{}
		}
		ss[key].add(x)
	}
}

// drop takes x out of the sets of these keys.
func (ss sets[K, T]) drop(x T, keys ...K) {
	for _, key := range keys {
		delete(ss[key], x)
		if len(ss[key]) == 0 {
			delete(ss, key)
		}
	}
}
