// Package goal: what holds in a base, asked from the goal down.
package goal

import (
	"sync"

	"tabled/order"
	"tabled/syntax"
)

// Tables of answers: one for each kind of question that came up. Many may ask them at one time.
type Tables struct {
	guard     sync.Mutex
	words     words
	rules     []rule // the facts among them, as rules without a body
	questions order.Set[atom]
	list      []*table // by the questions' places
	size      int      // rows of all tables
}

type table struct {
	rules    []rule // that may answer the question, each cut to it
	rows     order.Set[row]
	finished bool // all that holds is in it
}

// New has no table yet: they are made as questions come up. The clauses must be safe and layered.
func New(clauses []syntax.Clause) *Tables {
	tables := &Tables{}
	for _, clause := range clauses {
		tables.rules = append(tables.rules, tables.words.codeRule(clause))
	}
	return tables
}

// Answers tells all ground atoms that hold and that the question becomes, each once. It holds the guard to its end:
// no other question must meet tables that are half filled.
func (t *Tables) Answers(question syntax.Atom) []syntax.Atom {
	t.guard.Lock()
	defer t.guard.Unlock()
	var variables order.Set[string]
	found := t.finish(t.words.codeAtom(question, &variables))
	var answers []syntax.Atom
	for i := range found.rows.Len() {
		answers = append(answers, t.words.answer(question, found.rows.At(i)))
	}
	return answers
}

// finish makes a search of its own, so that what stands under a negation is known before more is asked.
func (t *Tables) finish(question atom) *table {
	s := search{tables: t}
	found := s.need(question)
	for size := -1; size != t.size; {
		size = t.size
		s.goRound()
	}
	s.end()
	return found
}

// holds tells whether a ground atom holds.
func (t *Tables) holds(ground atom) bool { return t.finish(ground).rows.Len() > 0 }

// tableOf tells the place of a question's table, which is new if none of its kind came up before.
func (t *Tables) tableOf(question atom) int {
	question.terms = question.terms.kind()
	place, isNew := t.questions.Add(question)
	if isNew {
		t.list = append(t.list, &table{rules: t.cut(question)})
	}
	return place
}

func (t *Tables) cut(question atom) []rule {
	var cut []rule
	for _, whole := range t.rules {
		if whole.head.name != question.name {
			continue
		}
		if fitting, ok := whole.fit(whole.head.terms, question.terms); ok {
			cut = append(cut, fitting)
		}
	}
	return cut
}
