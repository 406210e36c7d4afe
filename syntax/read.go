package syntax

import (
	"strings"

	"tabled/api"
)

// reader goes through a text and never passes a byte that cannot stand where it is. So whenever a method tells that it
// failed, at is the place of the first byte with which no right text begins, or the text's length.
type reader struct {
	text string
	at   int
}

// ReadProgram answers the clauses; or, if the text has not the form, the place of the fault and false.
func ReadProgram(text string) ([]Placed, int, bool) {
	r := reader{text: text}
	var program []Placed
	for !r.atEnd() {
		if len(program) == api.MaxClauses {
			return nil, r.at, false
		}
		clause, ok := r.clause()
		if !ok {
			return nil, r.at, false
		}
		program = append(program, clause)
	}
	return program, 0, true
}

// ReadQuestion answers the one atom and its spot; or, if the text has not the form, the place of the fault and false.
func ReadQuestion(text string) (Atom, Spot, int, bool) {
	r := reader{text: text}
	atom, spot, ok := r.atom()
	if !ok || !r.atEnd() {
		return Atom{}, Spot{}, r.at, false
	}
	return atom, spot, 0, true
}

func (r *reader) clause() (Placed, bool) {
	head, spot, ok := r.atom()
	if !ok {
		return Placed{}, false
	}
	clause := Placed{Clause: Clause{Head: head}, Spots: []Spot{spot}}
	if r.take(':') && !r.body(&clause) {
		return Placed{}, false
	}
	return clause, r.take('.')
}

// body is what follows the ":" of ":-".
func (r *reader) body(clause *Placed) bool {
	if r.peek() != '-' { // not by take: no blank may stand within ":-"
		return false
	}
	r.at++
	for {
		literal, spot, ok := r.literal()
		if !ok {
			return false
		}
		clause.Clause.Body = append(clause.Clause.Body, literal)
		clause.Spots = append(clause.Spots, spot)
		if len(clause.Clause.Body) == api.MaxBody || !r.take(',') {
			return true
		}
	}
}

func (r *reader) literal() (Literal, Spot, bool) {
	mark, negative := 0, r.take('!')
	if negative {
		mark = r.at - 1
	}
	atom, spot, ok := r.atom()
	spot.Mark = mark
	return Literal{Atom: atom, Negative: negative}, spot, ok
}

func (r *reader) atom() (Atom, Spot, bool) {
	r.skipBlanks()
	if !isSmall(r.peek()) {
		return Atom{}, Spot{}, false
	}
	spot := Spot{Name: r.at}
	atom := Atom{Name: r.word(isSmallOrDigit)}
	if !r.take('(') {
		return atom, spot, true
	}
	for {
		place, term, ok := r.term()
		if !ok {
			return Atom{}, Spot{}, false
		}
		spot.Terms[atom.Count], atom.Terms[atom.Count] = place, term
		atom.Count++
		if atom.Count == api.MaxArgs || !r.take(',') {
			return atom, spot, r.take(')')
		}
	}
}

func (r *reader) term() (int, string, bool) {
	r.skipBlanks()
	place := r.at
	switch {
	case isSmall(r.peek()):
		return place, r.word(isSmallOrDigit), true
	case isGreat(r.peek()):
		return place, r.word(isLetterOrDigit), true
	}
	return 0, "", false
}

// word stops at MaxWord characters: nothing that may follow a word begins with one of its characters, so that one
// character too many is refused by whoever reads on. The copy lets go of the text, which is not to be kept.
func (r *reader) word(fits func(byte) bool) string {
	start := r.at
	for r.at-start < api.MaxWord && fits(r.peek()) {
		r.at++
	}
	return strings.Clone(r.text[start:r.at])
}

// take passes the mark, if that comes next.
func (r *reader) take(mark byte) bool {
	r.skipBlanks()
	if r.peek() != mark {
		return false
	}
	r.at++
	return true
}

func (r *reader) atEnd() bool {
	r.skipBlanks()
	return r.at == len(r.text)
}

func (r *reader) skipBlanks() {
	for r.peek() == ' ' || r.peek() == '\n' {
		r.at++
	}
}

// peek answers 0 at the end, which is as good as any byte that may stand nowhere.
func (r *reader) peek() byte {
	if r.at == len(r.text) {
		return 0
	}
	return r.text[r.at]
}

func isSmall(c byte) bool { return 'a' <= c && c <= 'z' }

func isGreat(c byte) bool { return 'A' <= c && c <= 'Z' }

func isSmallOrDigit(c byte) bool { return isSmall(c) || '0' <= c && c <= '9' }

func isLetterOrDigit(c byte) bool { return isGreat(c) || isSmallOrDigit(c) }
