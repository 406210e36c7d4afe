// Package order: sets that remember in which order things came.
package order

// Set holds each thing once. The list keeps the order, which a map alone would lose. The zero Set is empty and ready.
type Set[T comparable] struct {
	places map[T]int
	list   []T
}

// Add tells the thing's place in the order (from 0 on), and whether it is new.
func (s *Set[T]) Add(thing T) (int, bool) {
	if place, found := s.Find(thing); found {
		return place, false
	}
	if s.places == nil {
		s.places = map[T]int{}
	}
	place := len(s.list)
	s.places[thing] = place
	s.list = append(s.list, thing)
	return place, true
}

// Find tells the thing's place, and whether it came already.
func (s *Set[T]) Find(thing T) (int, bool) {
	place, found := s.places[thing]
	return place, found
}

// Has tells whether the thing came already.
func (s *Set[T]) Has(thing T) bool {
	_, found := s.Find(thing)
	return found
}

// Len tells how many things came.
func (s *Set[T]) Len() int { return len(s.list) }

// At tells which thing came at a place below Len. A loop up to Len may add while it goes, and then meets what it added.
func (s *Set[T]) At(place int) T { return s.list[place] }
