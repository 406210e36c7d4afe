package goal

import (
	"slices"

	"tabled/api"
)

// term is a constant (its place among the words, from 0 on) or a variable (below 0).
type term int

func (t term) isVariable() bool { return t < 0 }

// row of an atom's terms. Where there is no term stands the empty word, so that rows of all lengths can be compared.
type row [api.MaxArgs]term

// with has another term in the place of a variable.
func (r row) with(variable, other term) row {
	for i, own := range r {
		if own == variable {
			r[i] = other
		}
	}
	return r
}

// kind names each variable by the place where it stands first: rows that differ in the names of variables alone are of
// one kind.
func (r row) kind() row {
	kind := r
	for i, own := range r {
		if own.isVariable() {
			kind[i] = term(-1 - slices.Index(r[:], own))
		}
	}
	return kind
}

// firstOfRules: the variables of rules lie below those of kinds, so that a rule and a question have none in common.
const firstOfRules = -1 - api.MaxArgs

type atom struct {
	name  int // its place among the words
	terms row
}

// rule is a clause as a value: each step of a search works on a copy of its own, and none has to be undone.
type rule struct {
	head     atom
	body     [api.MaxBody]atom // the positive literals ahead of the negative ones, which they make ground
	positive int
	count    int
}

func (r rule) with(variable, other term) rule {
	r.head.terms = r.head.terms.with(variable, other)
	for i := range r.count {
		r.body[i].terms = r.body[i].terms.with(variable, other)
	}
	return r
}

// fit makes a row of the rule and another row the same, by putting terms in the place of variables all through the
// rule. The other row must have no variable of the rule.
func (r rule) fit(own, other row) (rule, bool) {
	for i := range own {
		variable, instead := own[i], other[i]
		if !variable.isVariable() {
			variable, instead = instead, variable
		}
		if variable == instead {
			continue
		}
		if !variable.isVariable() {
			return rule{}, false
		}
		r = r.with(variable, instead)
		own = own.with(variable, instead)
		other = other.with(variable, instead)
	}
	return r, true
}
