// Package syntax: clauses, how they are read from a text and how they are printed.
package syntax

import (
	"slices"

	"tabled/api"
)

// Atom holds its terms in an array, so that two atoms can be compared by == and kept in a set.
type Atom struct {
	Name  string
	Count int
	Terms [api.MaxArgs]string // the first Count of them; the others are empty
}

// Literal of a body.
type Literal struct {
	Atom     Atom
	Negative bool
}

// Clause: a fact or a rule.
type Clause struct {
	Head Atom
	Body []Literal
}

// Spot tells where the parts of an atom stand in a text. It is apart from Atom, as a base keeps atoms but no places.
type Spot struct {
	Mark  int // of the "!", if there is one
	Name  int
	Terms [api.MaxArgs]int
}

// Placed is a clause with the spots of its atoms, in the order of Atoms.
type Placed struct {
	Clause Clause
	Spots  []Spot
}

// Clauses leaves the places behind.
func Clauses(program []Placed) []Clause {
	var clauses []Clause
	for _, placed := range program {
		clauses = append(clauses, placed.Clause)
	}
	return clauses
}

// IsVariable tells a variable from a constant.
func IsVariable(term string) bool {
	return term != "" && isGreat(term[0])
}

// FirstVariable tells which term is the first variable; -1, if the atom is ground.
func (a Atom) FirstVariable() int {
	return slices.IndexFunc(a.Terms[:a.Count], IsVariable)
}

// Atoms of the clause, in the order of the text: the head, then those of the body.
func (c Clause) Atoms() []Atom {
	atoms := []Atom{c.Head}
	for _, literal := range c.Body {
		atoms = append(atoms, literal.Atom)
	}
	return atoms
}

// IsFact tells a fact from a rule.
func (c Clause) IsFact() bool {
	return len(c.Body) == 0 && c.Head.FirstVariable() < 0
}
