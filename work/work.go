// Package work: how much a base may have to do when it is asked.
package work

import (
	"tabled/order"
	"tabled/syntax"
)

// IsAbove tells whether the work of a base is above a limit. The whole number may be too great for an int.
func IsAbove(clauses []syntax.Clause, limit int) bool {
	constants := max(1, countConstants(clauses))
	sum := 0
	for _, clause := range clauses {
		if clause.IsFact() {
			continue
		}
		sum += power(constants, countVariables(clause), limit)
		if sum > limit {
			return true
		}
	}
	return false
}

// power stops as soon as it is above the limit.
func power(base, exponent, limit int) int {
	product := 1
	for range exponent {
		if product > limit {
			break
		}
		product *= base
	}
	return product
}

func countConstants(clauses []syntax.Clause) int {
	var constants order.Set[string]
	for _, clause := range clauses {
		addTerms(&constants, clause, false)
	}
	return constants.Len()
}

func countVariables(clause syntax.Clause) int {
	var variables order.Set[string]
	addTerms(&variables, clause, true)
	return variables.Len()
}

func addTerms(terms *order.Set[string], clause syntax.Clause, variables bool) {
	for _, atom := range clause.Atoms() {
		for _, term := range atom.Terms[:atom.Count] {
			if syntax.IsVariable(term) == variables {
				terms.Add(term)
			}
		}
	}
}
