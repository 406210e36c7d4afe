package syntax

import "strings"

// PrintProgram tells the printed form of a program.
func PrintProgram(clauses []Clause) string {
	var out strings.Builder
	for _, clause := range clauses {
		printClause(&out, clause)
		out.WriteByte('\n')
	}
	return out.String()
}

// PrintAtom tells the printed form of an atom.
func PrintAtom(atom Atom) string {
	var out strings.Builder
	printAtom(&out, atom)
	return out.String()
}

func printClause(out *strings.Builder, clause Clause) {
	printAtom(out, clause.Head)
	for i, literal := range clause.Body {
		if i == 0 {
			out.WriteString(":-")
		} else {
			out.WriteByte(',')
		}
		if literal.Negative {
			out.WriteByte('!')
		}
		printAtom(out, literal.Atom)
	}
	out.WriteByte('.')
}

func printAtom(out *strings.Builder, atom Atom) {
	out.WriteString(atom.Name)
	if atom.Count == 0 {
		return
	}
	out.WriteByte('(')
	out.WriteString(strings.Join(atom.Terms[:atom.Count], ","))
	out.WriteByte(')')
}
