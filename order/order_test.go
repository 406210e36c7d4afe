package order

import "testing"

func TestSetKeepsEachThingOnceInItsOrder(t *testing.T) {
	var s Set[string]
	if s.Len() != 0 || s.Has("") || s.Has("b") {
		t.Error("the zero Set is not empty")
	}
	for _, c := range []struct {
		thing string
		place int
		isNew bool
	}{{"b", 0, true}, {"a", 1, true}, {"b", 0, false}, {"", 2, true}, {"a", 1, false}, {"", 2, false}} {
		place, isNew := s.Add(c.thing)
		if place != c.place || isNew != c.isNew {
			t.Errorf("Add(%q) = %d, %v, want %d, %v", c.thing, place, isNew, c.place, c.isNew)
		}
	}
	for i, want := range []string{"b", "a", ""} {
		if place, found := s.Find(want); place != i || !found {
			t.Errorf("Find(%q) = %d, %v, want %d", want, place, found, i)
		}
		if s.At(i) != want || !s.Has(want) {
			t.Errorf("At(%d) = %q, want %q", i, s.At(i), want)
		}
	}
	if _, found := s.Find("c"); found || s.Has("c") {
		t.Errorf("Find(c) tells %v, Has(c) %v", found, s.Has("c"))
	}
	if s.Len() != 3 { // to look for a thing does not add it
		t.Errorf("Len() = %d", s.Len())
	}
}

func TestSetTakesWhatCanBeCompared(t *testing.T) {
	var s Set[[2]int]
	s.Add([2]int{1, 2})
	if _, isNew := s.Add([2]int{1, 2}); isNew {
		t.Error("the same row is new twice")
	}
	if _, isNew := s.Add([2]int{2, 1}); !isNew {
		t.Error("another row is not new")
	}
}

func TestLoopMeetsWhatItAdds(t *testing.T) {
	var s Set[int]
	s.Add(1)
	for i := 0; i < s.Len(); i++ {
		if next := s.At(i) * 3 % 7; next != 0 {
			s.Add(next)
		}
	}
	if s.Len() != 6 {
		t.Errorf("the loop met %d things, want 6", s.Len())
	}
}
