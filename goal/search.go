package goal

import "tabled/order"

// search goes round the tables that one question needs.
type search struct {
	tables *Tables
	needed order.Set[int] // places of tables that may still grow
}

// need tells a question's table; if that may still grow, the search goes to it from now on.
func (s *search) need(question atom) *table {
	place := s.tables.tableOf(question)
	found := s.tables.list[place]
	if !found.finished {
		s.needed.Add(place)
	}
	return found
}

// goRound goes to each needed table once, to those too that come to be needed meanwhile.
func (s *search) goRound() {
	for i := 0; i < s.needed.Len(); i++ {
		goal := s.tables.list[s.needed.At(i)]
		if goal.finished {
			continue // by a search under a negation
		}
		for _, r := range goal.rules {
			s.join(r, 0, goal)
		}
	}
}

// join adds to a table all rows that a rule gives, if its literals ahead of a place are met already.
func (s *search) join(r rule, place int, goal *table) {
	if place == r.count {
		s.add(r.head.terms, goal)
	} else if place < r.positive {
		s.joinPositive(r, place, goal)
	} else if !s.tables.holds(r.body[place]) {
		s.join(r, place+1, goal)
	}
}

func (s *search) joinPositive(r rule, place int, goal *table) {
	found := s.need(r.body[place])
	for i := 0; i < found.rows.Len(); i++ { // found may be goal itself, and grow meanwhile
		if met, ok := r.fit(r.body[place].terms, found.rows.At(i)); ok {
			s.join(met, place+1, goal)
		}
	}
}

// add counts rows for all searches in common: a search under a negation may lengthen a table that this one read before.
func (s *search) add(found row, goal *table) {
	if _, isNew := goal.rows.Add(found); isNew {
		s.tables.size++
	}
}

// end: as no table grew any more, all that holds is in those that were needed.
func (s *search) end() {
	for i := range s.needed.Len() {
		s.tables.list[s.needed.At(i)].finished = true
	}
}
