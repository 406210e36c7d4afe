package goal

import (
	"slices"
	"strings"
	"sync"
	"testing"

	"tabled/syntax"
)

func tablesOf(t *testing.T, text string) *Tables {
	t.Helper()
	program, place, ok := syntax.ReadProgram(text)
	if !ok {
		t.Fatalf("%q has not the form, at %d", text, place)
	}
	return New(syntax.Clauses(program))
}

func ask(t *testing.T, tables *Tables, text string) string {
	t.Helper()
	question, _, place, ok := syntax.ReadQuestion(text)
	if !ok {
		t.Fatalf("%q has not the form, at %d", text, place)
	}
	return printSorted(tables.Answers(question))
}

func printSorted(atoms []syntax.Atom) string {
	var printed []string
	for _, atom := range atoms {
		printed = append(printed, syntax.PrintAtom(atom))
	}
	slices.Sort(printed)
	return strings.Join(printed, " ")
}

// asked tells the kinds of questions that came up, in their order: constants as they are, variables as the places where
// they stand first.
func (t *Tables) asked() string {
	var kinds []string
	for i := range t.questions.Len() {
		question := t.questions.At(i)
		kind := t.words.names.At(question.name)
		for _, own := range question.terms {
			if own.isVariable() {
				kind += " " + string(rune('0'+-1-own))
			} else if word := t.words.constants.At(int(own)); word != "" {
				kind += " " + word
			}
		}
		kinds = append(kinds, kind)
	}
	return strings.Join(kinds, ", ")
}

const paths = "e(a,b). e(b,c). e(d,a). p(X,Y):-e(X,Y). p(X,Z):-e(X,Y),p(Y,Z). apart(X,Y):-n(X),n(Y),!p(X,Y). n(X):-e(X,Y). n(Y):-e(X,Y)."

func TestOnlyWhatTheQuestionNeeds(t *testing.T) {
	for _, c := range []struct{ program, question, answers, asked string }{
		{paths, "p(b,X)", "p(b,c)", "p b 1, e b 1, p c 1, e c 1"},
		{paths, "p(b,b)", "", "p b b, e b b, e b 1, p c b, e c b, e c 1"},
		{paths, "e(X,X)", "", "e 0 0"},
		{paths, "apart(c,b)", "apart(c,b)", "apart c b, n c, e c 1, e 0 c, n b, e b 1, e 0 b, p c b, e c b"},
		{paths, "x(X,a)", "", "x 0 a"},
		{"p(X,Y):-q(X),q(Y). q(a). q(b).", "p(Z,Z)", "p(a,a) p(b,b)", "p 0 0, q 0, q a, q b"},
		{"p(X,Y,X):-q(Y,X,Y). q(a,b,a). q(a,b,c).", "p(X,Y,Z)", "p(b,a,b)", "p 0 1 2, q 0 1 0"},
		{"p(X):-q(X),r(X). q(a). r(b). s(c).", "p(b)", "", "p b, q b"},
		{"p(a):-q. p(b):-r. q. r.", "p(b)", "p(b)", "p b, r"},
	} {
		tables := tablesOf(t, c.program)
		if got := ask(t, tables, c.question); got != c.answers {
			t.Errorf("%q of %q: %q, want %q", c.question, c.program, got, c.answers)
		}
		if got := tables.asked(); got != c.asked {
			t.Errorf("%q of %q: asked %q, want %q", c.question, c.program, got, c.asked)
		}
	}
}

func TestOneTableForOneKind(t *testing.T) {
	tables := tablesOf(t, paths)
	ask(t, tables, "p(X,Y)")
	count := len(tables.list)
	for _, question := range []string{"p(X,Y)", "p(Y,X)", "p( Foo , Bar )", "p(a,X)", "e(X,Y)", "e(b,Z)"} {
		ask(t, tables, question)
	}
	if len(tables.list) != count || tables.questions.Len() != count {
		t.Errorf("%d tables and %d questions, want %d: %s", len(tables.list), tables.questions.Len(), count, tables.asked())
	}
	ask(t, tables, "p(X,X)")
	if len(tables.list) == count {
		t.Error("p(X,X) is taken for p(X,Y)")
	}
}

// TestManyQuestionsOfTheSameTables: what one question left must not spoil the next one.
func TestManyQuestionsOfTheSameTables(t *testing.T) {
	questions := []string{"p(a,X)", "apart(X,Y)", "p(X,c)", "n(X)", "p(zz,X)", "apart(b,X)", "p(X,X)", "x", "x(X)", "e(zz,zz)", "apart(X,X)"}
	for i := range questions {
		tables := tablesOf(t, paths)
		for k := range questions {
			question := questions[(i+k)%len(questions)]
			if got, want := ask(t, tables, question), ask(t, tablesOf(t, paths), question); got != want {
				t.Errorf("%q: %q, by itself %q", question, got, want)
			}
		}
	}
}

// TestManyAskTheSameTables at one time, while nothing is known yet.
func TestManyAskTheSameTables(t *testing.T) {
	questions := []string{"p(a,X)", "apart(X,Y)", "p(X,c)", "n(X)", "p(zz,X)", "apart(b,X)", "p(X,X)", "x(X)", "e(zz,zz)"}
	var want []string
	for _, question := range questions {
		want = append(want, ask(t, tablesOf(t, paths), question))
	}
	for range 20 {
		tables := tablesOf(t, paths)
		var group sync.WaitGroup
		for i := range 8 * len(questions) {
			group.Go(func() {
				place := i % len(questions)
				if question, _, _, _ := syntax.ReadQuestion(questions[place]); printSorted(tables.Answers(question)) != want[place] {
					t.Errorf("%q is not %q, if many ask", questions[place], want[place])
				}
			})
		}
		group.Wait()
	}
}

// TestFinishedTables: all that was needed is finished, and no row is counted twice.
func TestFinishedTables(t *testing.T) {
	tables := tablesOf(t, paths)
	ask(t, tables, "apart(X,Y)")
	rows := 0
	for i, table := range tables.list {
		rows += table.rows.Len()
		if !table.finished {
			t.Errorf("the table of question %d of %q is not finished", i, tables.asked())
		}
	}
	if rows != tables.size || rows == 0 {
		t.Errorf("%d rows, but a size of %d", rows, tables.size)
	}
}

// TestALateRow: the search under the negation fills the table of b, which a1 read before it had a row.
func TestALateRow(t *testing.T) {
	for _, program := range []string{
		"t(X):-a1(X). t(X):-s(X),!n(X). a1(X):-b(X). b(X):-e(X). n(X):-b(Y),f(Y),f(X). s(a). e(c).",
		"t(X):-s(X),!n(X). t(X):-a1(X). a1(X):-b(X). b(X):-e(X). n(X):-b(Y),f(Y),f(X). s(a). e(c).",
		"t(X):-s(X),!n(X). a1(X):-b(X). t(X):-a1(X). n(X):-f(X). n(X):-b(X),f(X). s(a). b(X):-b2(X). b2(X):-e(X). e(c).",
	} {
		if got := ask(t, tablesOf(t, program), "t(X)"); got != "t(a) t(c)" {
			t.Errorf("%q: %q, want t(a) t(c)", program, got)
		}
	}
}
