// Package layer: how many negations deep the names of a base stand.
package layer

import (
	"tabled/order"
	"tabled/syntax"
)

// Nowhere is told of a name that stands in no clause.
const Nowhere = -1

// Of tells the layer of a name. The clauses must be layered: else the numbers would grow for ever.
func Of(clauses []syntax.Clause, name string) int {
	names := namesOf(clauses)
	place, known := names.Find(name)
	if !known {
		return Nowhere
	}
	layers := make([]int, names.Len())
	for raise(clauses, names, layers) {
	}
	return layers[place]
}

func namesOf(clauses []syntax.Clause) *order.Set[string] {
	names := &order.Set[string]{}
	for _, clause := range clauses {
		for _, atom := range clause.Atoms() {
			names.Add(atom.Name)
		}
	}
	return names
}

// raise goes one step further on all ways, and tells whether a layer (by the names' places) grew by that.
func raise(clauses []syntax.Clause, names *order.Set[string], layers []int) bool {
	grew := false
	for _, clause := range clauses {
		head, _ := names.Find(clause.Head.Name)
		for _, literal := range clause.Body {
			if least := leastAbove(literal, names, layers); layers[head] < least {
				layers[head] = least
				grew = true
			}
		}
	}
	return grew
}

// leastAbove tells in which layer a head is at least, if this literal is in its body.
func leastAbove(literal syntax.Literal, names *order.Set[string], layers []int) int {
	place, _ := names.Find(literal.Atom.Name)
	if literal.Negative {
		return layers[place] + 1
	}
	return layers[place]
}
