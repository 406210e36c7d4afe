package goal

import (
	"tabled/order"
	"tabled/syntax"
)

// words of a base and of what it is asked: names and constants are known by their places.
type words struct {
	names     order.Set[string]
	constants order.Set[string]
}

func (w *words) codeRule(clause syntax.Clause) rule {
	var variables order.Set[string]
	coded := rule{head: w.codeAtom(clause.Head, &variables)}
	for _, negative := range []bool{false, true} {
		for _, literal := range clause.Body {
			if literal.Negative == negative {
				coded.body[coded.count] = w.codeAtom(literal.Atom, &variables)
				coded.count++
			}
		}
		if !negative {
			coded.positive = coded.count
		}
	}
	return coded
}

func (w *words) codeAtom(plain syntax.Atom, variables *order.Set[string]) atom {
	name, _ := w.names.Add(plain.Name)
	coded := atom{name: name}
	for i, word := range plain.Terms {
		coded.terms[i] = w.codeTerm(word, variables)
	}
	return coded
}

func (w *words) codeTerm(word string, variables *order.Set[string]) term {
	if syntax.IsVariable(word) {
		place, _ := variables.Add(word)
		return term(firstOfRules - place)
	}
	place, _ := w.constants.Add(word)
	return term(place)
}

// answer tells what the question becomes by a row of constants.
func (w *words) answer(question syntax.Atom, found row) syntax.Atom {
	for i, constant := range found {
		question.Terms[i] = w.constants.At(int(constant))
	}
	return question
}
