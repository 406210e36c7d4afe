// Package check: what a text that has the form may still do wrong.
package check

import (
	"tabled/order"
	"tabled/syntax"
)

// Counts remembers with how many terms each name stood first. The zero Counts knows no name.
type Counts struct {
	names  order.Set[string]
	counts []int // by the names' places
}

// Fits remembers a new name; of one that it knows it tells whether the atom has as many terms.
func (c *Counts) Fits(atom syntax.Atom) bool {
	place, isNew := c.names.Add(atom.Name)
	if isNew {
		c.counts = append(c.counts, atom.Count)
	}
	return c.counts[place] == atom.Count
}

// CountsOf remembers the names of a base's clauses.
func CountsOf(clauses []syntax.Clause) *Counts {
	counts := &Counts{}
	for _, clause := range clauses {
		for _, atom := range clause.Atoms() {
			counts.Fits(atom)
		}
	}
	return counts
}

// Arity finds the first atom whose name stood first with another number of terms.
func Arity(program []syntax.Placed) (int, bool) {
	var counts Counts
	for _, placed := range program {
		for i, atom := range placed.Clause.Atoms() {
			if !counts.Fits(atom) {
				return placed.Spots[i].Name, true
			}
		}
	}
	return 0, false
}

// Unsafe finds the first variable that no positive literal of its clause has.
func Unsafe(program []syntax.Placed) (int, bool) {
	for _, placed := range program {
		safe := positiveTerms(placed.Clause)
		for i, atom := range placed.Clause.Atoms() {
			for k, term := range atom.Terms[:atom.Count] {
				if syntax.IsVariable(term) && !safe.Has(term) {
					return placed.Spots[i].Terms[k], true
				}
			}
		}
	}
	return 0, false
}

func positiveTerms(clause syntax.Clause) *order.Set[string] {
	terms := &order.Set[string]{}
	for _, literal := range clause.Body {
		if literal.Negative {
			continue
		}
		for _, term := range literal.Atom.Terms[:literal.Atom.Count] {
			terms.Add(term)
		}
	}
	return terms
}

// Layers finds the "!" of the first negative literal whose name is the head's name or depends on it.
func Layers(program []syntax.Placed) (int, bool) {
	for _, placed := range program {
		for i, literal := range placed.Clause.Body {
			if !literal.Negative {
				continue
			}
			if needs(program, literal.Atom.Name).Has(placed.Clause.Head.Name) {
				return placed.Spots[1+i].Mark, true
			}
		}
	}
	return 0, false
}

// needs tells the name itself and all on which it depends.
func needs(program []syntax.Placed, name string) *order.Set[string] {
	names := &order.Set[string]{}
	names.Add(name)
	for i := 0; i < names.Len(); i++ {
		for _, placed := range program {
			if placed.Clause.Head.Name == names.At(i) {
				addBody(names, placed.Clause)
			}
		}
	}
	return names
}

func addBody(names *order.Set[string], clause syntax.Clause) {
	for _, literal := range clause.Body {
		names.Add(literal.Atom.Name)
	}
}
