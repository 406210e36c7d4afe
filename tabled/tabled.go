// Package tabled: rules and facts, and what follows of them, asked from the goal down: see DOC.md.
package tabled

import (
	"slices"
	"sync"

	"tabled/api"
	"tabled/check"
	"tabled/goal"
	"tabled/layer"
	"tabled/syntax"
	"tabled/work"
)

// Base: rules and facts.
type Base struct {
	clauses []syntax.Clause // those of the program, then what was asserted
}

// Load reads a program (P3).
func Load(program string) (*Base, api.Errno, int) {
	if len(program) > api.MaxText {
		return nil, api.ErrLimit, 0
	}
	placed, place, ok := syntax.ReadProgram(program)
	if !ok {
		return nil, api.ErrSyntax, place
	}
	if errno, place := findFault(placed); errno != api.OK {
		return nil, errno, place
	}
	return &Base{clauses: syntax.Clauses(placed)}, api.OK, 0
}

// findFault asks in the order in which the document names the errors.
func findFault(program []syntax.Placed) (api.Errno, int) {
	if place, found := check.Arity(program); found {
		return api.ErrArity, place
	}
	if place, found := check.Unsafe(program); found {
		return api.ErrUnsafe, place
	}
	if place, found := check.Layers(program); found {
		return api.ErrLayers, place
	}
	return api.OK, 0
}

// Print tells a base's clauses (P4).
func (b *Base) Print() string { return syntax.PrintProgram(b.clauses) }

// Assert adds a fact (P5).
func (b *Base) Assert(fact string) (api.Errno, int) {
	atom, errno, place := b.readFact(fact)
	if errno != api.OK {
		return errno, place
	}
	if slices.ContainsFunc(b.clauses, isFactOf(atom)) {
		return api.ErrTwice, 0
	}
	if len(b.clauses) >= api.MaxClauses {
		return api.ErrLimit, 0
	}
	b.clauses = append(b.clauses, syntax.Clause{Head: atom})
	return api.OK, 0
}

// Retract takes a fact away (P5).
func (b *Base) Retract(fact string) (api.Errno, int) {
	atom, errno, place := b.readFact(fact)
	if errno != api.OK {
		return errno, place
	}
	if !slices.ContainsFunc(b.clauses, isFactOf(atom)) {
		return api.ErrNone, 0
	}
	b.clauses = slices.DeleteFunc(b.clauses, isFactOf(atom))
	return api.OK, 0
}

// isFactOf makes the test whether a clause is this fact: a rule with the same head is not.
func isFactOf(atom syntax.Atom) func(syntax.Clause) bool {
	return func(clause syntax.Clause) bool { return clause.IsFact() && clause.Head == atom }
}

// readFact reads a ground question.
func (b *Base) readFact(text string) (syntax.Atom, api.Errno, int) {
	atom, spot, errno, place := b.readQuestion(text)
	if errno != api.OK {
		return syntax.Atom{}, errno, place
	}
	if i := atom.FirstVariable(); i >= 0 {
		return syntax.Atom{}, api.ErrGround, spot.Terms[i]
	}
	return atom, api.OK, 0
}

// readQuestion counts the base's names anew each time: what was retracted may have been the last to know a name.
func (b *Base) readQuestion(text string) (syntax.Atom, syntax.Spot, api.Errno, int) {
	if len(text) > api.MaxText {
		return syntax.Atom{}, syntax.Spot{}, api.ErrLimit, 0
	}
	atom, spot, place, ok := syntax.ReadQuestion(text)
	if !ok {
		return syntax.Atom{}, syntax.Spot{}, api.ErrSyntax, place
	}
	if !check.CountsOf(b.clauses).Fits(atom) {
		return syntax.Atom{}, syntax.Spot{}, api.ErrArity, spot.Name
	}
	return atom, spot, api.OK, 0
}

// Layer tells a name's layer (P6).
func (b *Base) Layer(name string) int { return layer.Of(b.clauses, name) }

// Ask answers a question (P7).
func (b *Base) Ask(question string) ([]string, api.Errno, int) {
	answer := b.answer(question, goal.New(b.clauses))
	return answer.Atoms, answer.Error, answer.Place
}

// AskAll answers many (P8). The tables that its questions share end with it: what is asserted or retracted next may make
// them untrue.
func (b *Base) AskAll(questions ...string) []api.Answer {
	answers := make([]api.Answer, len(questions))
	tables := goal.New(b.clauses)
	var group sync.WaitGroup
	for i, question := range questions {
		group.Go(func() { answers[i] = b.answer(question, tables) })
	}
	group.Wait()
	return answers
}

// answer may go on for many questions at one time: it reads the base, and the tables guard themselves.
func (b *Base) answer(question string, tables *goal.Tables) api.Answer {
	atom, _, errno, place := b.readQuestion(question)
	if errno != api.OK {
		return api.Answer{Error: errno, Place: place}
	}
	if work.IsAbove(b.clauses, api.MaxWork) {
		return api.Answer{Error: api.ErrLimit}
	}
	return api.Answer{Atoms: printSorted(tables.Answers(atom))}
}

func printSorted(atoms []syntax.Atom) []string {
	var printed []string
	for _, atom := range atoms {
		printed = append(printed, syntax.PrintAtom(atom))
	}
	slices.Sort(printed)
	return printed
}
