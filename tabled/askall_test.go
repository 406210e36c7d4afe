package tabled_test

import (
	"runtime"
	"slices"
	"strconv"
	"strings"
	"sync"
	"testing"
	"time"

	"tabled/api"
	"tabled/tabled"
)

// tell puts an answer into one line: its atoms with blanks between, or its error and place.
func tell(answer api.Answer) string {
	atoms := strings.Join(answer.Atoms, " ")
	if answer.Error == api.OK && answer.Place == 0 {
		return atoms
	}
	told := "error " + strconv.Itoa(int(answer.Error)) + " at " + strconv.Itoa(answer.Place)
	if answer.Atoms != nil {
		told += " with a list: " + atoms
	}
	return told
}

// checkAskAll takes questions and what tell makes of their answers, by turns.
func checkAskAll(t *testing.T, base *tabled.Base, turns ...string) {
	t.Helper()
	var questions []string
	for i := 0; i < len(turns); i += 2 {
		questions = append(questions, turns[i])
	}
	answers := base.AskAll(questions...)
	if len(answers) != len(questions) {
		t.Errorf("P8: %d answers to %d questions", len(answers), len(questions))
		return
	}
	for i, question := range questions {
		if got, want := tell(answers[i]), turns[2*i+1]; got != want {
			t.Errorf("P8: question %d of %d, %.60q: %q, want %q, of %q", i, len(questions), question, got, want, base.Print())
		}
	}
}

// turnsOf tells what Ask answers to each question alone.
func turnsOf(base *tabled.Base, questions ...string) []string {
	var turns []string
	for _, question := range questions {
		atoms, errno, place := base.Ask(question)
		turns = append(turns, question, tell(api.Answer{Atoms: atoms, Error: errno, Place: place}))
	}
	return turns
}

// checkAskAllLikeAsk asks for all in several orders.
func checkAskAllLikeAsk(t *testing.T, base *tabled.Base, questions []string) {
	t.Helper()
	for range 3 {
		checkAskAll(t, base, turnsOf(base, questions...)...)
		slices.Reverse(questions)
		checkAskAll(t, base, turnsOf(base, questions...)...)
		questions = append(slices.Clone(questions[len(questions)/3:]), questions[:len(questions)/3]...)
	}
}

// tooMuch is of a work above MaxWork: 13 constants, three variables.
func tooMuch() string { return constants(13) + threeVariables + "n(k0)." }

func TestAskAllExamples(t *testing.T) {
	base := load(t, example)
	checkAskAll(t, base,
		"path(a,X)", "path(a,a) path(a,b) path(a,c)",
		"apart(X,X)", "apart(d,d)",
		"apart( a , X )", "apart(a,d)",
		"path(X,a)", "path(a,a) path(b,a) path(c,a)",
		"node(c)", "node(c)",
	)
	checkRetract(t, base, "edge(c,a)", api.OK, 0)
	checkAskAll(t, base, "path(X,a)", "", "node(c)", "", "apart(a,X)", "apart(a,a) apart(a,d)")
}

func TestAskAllOfNothing(t *testing.T) {
	for _, program := range []string{"", example, tooMuch()} {
		base := load(t, program)
		for _, answers := range [][]api.Answer{base.AskAll(), base.AskAll(nil...), base.AskAll([]string{}...)} {
			if len(answers) != 0 {
				t.Errorf("P8: %d answers to no question", len(answers))
			}
		}
		checkPrint(t, base, load(t, program).Print())
	}
}

func TestAskAllOfOne(t *testing.T) {
	base := load(t, example)
	for _, turn := range [][]string{
		{"path(b,X)", "path(b,a) path(b,b) path(b,c)"}, {"path(d,X)", ""}, {"nowhere", ""}, {"nowhere(X,X)", ""},
		{"", "error 2 at 0"}, {"path(a", "error 2 at 6"}, {"path(a,X).", "error 2 at 9"}, {" node", "error 3 at 1"},
		{strings.Repeat(" ", api.MaxText) + "x", "error 1 at 0"},
	} {
		checkAskAll(t, base, turn...)
	}
	checkAskAll(t, load(t, ""), "p(X,a)", "")
	checkAskAll(t, load(t, tooMuch()), "n(k0)", "error 1 at 0")
}

// TestAskAllKeepsTheOrder: each question has an answer that no other one has.
func TestAskAllKeepsTheOrder(t *testing.T) {
	base := load(t, "pair(X,Y):-n(X),n(Y). rest(X,Y):-n(X),n(Y),!pair(X,Y). n(a). n(b). n(c). n(d). n(e). n(f). n(g). n(h). n(i). n(j). n(k). n(l). n(m). n(o). n(p). n(q).")
	var turns []string
	for _, one := range "ponmlkjihgfedcba" {
		for _, other := range "aibjckdlemfogphq" {
			question := "pair(" + string(one) + "," + string(other) + ")"
			if one == 'n' { // it is no constant of the base
				turns = append(turns, question, "")
			} else {
				turns = append(turns, question, question)
			}
			turns = append(turns, "rest("+string(other)+","+string(one)+")", "", "pair("+string(other), "error 2 at 6")
		}
	}
	checkAskAll(t, base, turns...)
}

func TestAskAllOfVeryMany(t *testing.T) {
	base := load(t, example)
	few := []string{"path(a,X)", "apart(X,Y)", "path(a", "node(X)", "node", "apart(a,zz)", "x(X)"}
	var turns []string
	for range 500 {
		turns = append(turns, turnsOf(base, few...)...)
	}
	checkAskAll(t, base, turns...)
	turns = nil
	for i := range 3000 { // each of a kind of its own
		turns = append(turns, "path(k"+strconv.Itoa(i)+",X)", "", "apart(X,k"+strconv.Itoa(i)+")", "")
	}
	checkAskAll(t, base, turns...)
}

func TestTheSameQuestionSeveralTimes(t *testing.T) {
	base := load(t, example)
	const answer = "apart(a,d) apart(b,d) apart(c,d) apart(d,d)"
	checkAskAll(t, base, "apart(X,d)", answer, "apart(X,d)", answer, "apart(X,d)", answer)
	checkAskAll(t, base, "apart(X,d)", answer, "apart( Y , d )", answer, "\napart(Longer,d)", answer, "apart(X,d)", answer)
	checkAskAll(t, base, "apart(X", "error 2 at 7", "apart(X", "error 2 at 7", "apart(X,d)", answer, "apart(X", "error 2 at 7")
	checkAskAll(t, base, "x", "", "x", "", "x(X)", "", "x", "", "x(a,b,c)", "")
	// alike, but not the same
	checkAskAll(t, base,
		"path(X,Y)", "path(a,a) path(a,b) path(a,c) path(b,a) path(b,b) path(b,c) path(c,a) path(c,b) path(c,c)",
		"path(X,X)", "path(a,a) path(b,b) path(c,c)", "path(X,b)", "path(a,b) path(b,b) path(c,b)", "path(b,X)", "path(b,a) path(b,b) path(b,c)", "path(b,b)", "path(b,b)",
	)
}

func TestAskAllOfRightAndWrong(t *testing.T) {
	base := load(t, example)
	full := strings.Repeat(" ", api.MaxText-4) + "node"
	checkAskAll(t, base,
		"", "error 2 at 0",
		"path(a,X)", "path(a,a) path(a,b) path(a,c)",
		" \n", "error 2 at 2",
		"path(a,X).", "error 2 at 9",
		" "+full, "error 1 at 0",
		"edge(b,X)", "edge(b,c)",
		full, "error 3 at "+strconv.Itoa(api.MaxText-4),
		full+"(X)", "error 1 at 0",
		full[3:]+"(X)", "node(a) node(b) node(c) node(d)",
		"!edge(a,b)", "error 2 at 0",
		" \n path(X)", "error 3 at 3",
		"apart(X,X)", "apart(d,d)",
		"path(a,b,c,d)", "error 2 at 10",
		"abcdefghijklm", "error 2 at 12",
		"abcdefghijkl", "",
		"edge(X,Y,Z)", "error 3 at 0",
		"edge(X,Y)", "edge(a,b) edge(b,c) edge(c,a)",
		"edge(a,\xff)", "error 2 at 7",
		"\x00", "error 2 at 0",
		"node(d)", "node(d)",
	)
	checkPrint(t, base, example)
}

func TestAskAllOfTooMuchWork(t *testing.T) {
	base := load(t, tooMuch())
	checkAskAll(t, base,
		"n(k0)", "error 1 at 0",
		" n(k0", "error 2 at 5",
		"nowhere", "error 1 at 0",
		" n", "error 3 at 1",
		strings.Repeat(" ", api.MaxText)+"n", "error 1 at 0",
		"  n(X)", "error 1 at 0",
	)
	limit := load(t, constants(10)+strings.Repeat(threeVariables, 2)+"n(k9).")
	checkAskAll(t, limit, "n(X)", "n(k9)", "r(X,Y,Z)", "r(k9,k9,k9)")
	// the constants of the questions are not the base's
	checkAskAll(t, limit, "n(a)", "", "n(b)", "", "r(k9,k9,X)", "r(k9,k9,k9)", "r(c,d,e)", "", "x(f)", "")
	checkAssert(t, limit, "other(k10)", api.OK, 0)
	checkAskAll(t, limit, "n(X)", "error 1 at 0", "other(k10)", "error 1 at 0")
	checkRetract(t, limit, "other(k10)", api.OK, 0)
	checkAskAll(t, limit, "n(X)", "n(k9)", "other(k10)", "")
}

func TestAskAllUnderNegations(t *testing.T) {
	const layers = "p(X):-q(X),!r(X). r(X):-s(X),!t(X). s(X):-q(X),!u(X). t(a). u(c). q(a). q(b). q(c). v(X,Y):-q(X),q(Y),!p(X),!r(Y)."
	for range 50 {
		checkAskAll(t, load(t, layers),
			"v(X,Y)", "v(b,a) v(b,c)", "p(X)", "p(a) p(c)", "r(X)", "r(b)", "s(X)", "s(a) s(b)", "p(b)", "", "r(a)", "", "s(c)", "",
			"p(a)", "p(a)", "v(b,X)", "v(b,a) v(b,c)", "v(X,X)", "", "s(b)", "s(b)", "t(X)", "t(a)", "r(c)", "", "p(zz)", "",
		)
	}
	for _, backward := range []bool{false, true} {
		var names []string
		for i := range api.MaxClauses + 2 {
			names = append(names, "n"+strconv.Itoa(i))
		}
		checkAskAllLikeAsk(t, load(t, chain("!", backward)), slices.Clone(names))
		checkAskAllLikeAsk(t, load(t, chain("", backward)), slices.Clone(names))
	}
}

func TestAskAllRound(t *testing.T) {
	for _, rule := range []string{"p(X,Z):-p(X,Y),e(Y,Z).", "p(X,Z):-e(X,Y),p(Y,Z).", "p(X,Z):-p(X,Y),p(Y,Z)."} {
		base := load(t, "p(X,Y):-e(X,Y)."+rule+"n(X):-e(X,Y). far(X,Y):-n(X),n(Y),!p(X,Y). lone(X):-n(X),!near(X). near(X):-p(X,Y),p(Y,X). e(a,b). e(b,c). e(c,b). e(c,d). e(d,f). e(f,g).")
		var questions []string
		for _, name := range []string{"p", "e", "far"} {
			for _, terms := range []string{"(X,Y)", "(X,X)", "(a,X)", "(X,a)", "(b,X)", "(X,g)", "(c,c)", "(zz,X)"} {
				questions = append(questions, name+terms)
			}
		}
		checkAskAllLikeAsk(t, base, append(questions, "lone(X)", "near(X)", "n(X)", "lone(b)", "near(d)"))
	}
}

func TestAskAllAfterFactsCameAndWent(t *testing.T) {
	base := load(t, "node(X):-edge(X,Y). node(Y):-edge(X,Y). path(X,Y):-edge(X,Y). path(X,Z):-path(X,Y),edge(Y,Z). apart(X,Y):-node(X),node(Y),!path(X,Y). single:-!double. double:-edge(X,Y),edge(Y,X).")
	checkAskAll(t, base, "path(X,Y)", "", "single", "single", "apart(X,Y)", "")
	checkAssert(t, base, "edge(a,b)", api.OK, 0)
	checkAskAll(t, base, "path(X,Y)", "path(a,b)", "single", "single", "apart(X,Y)", "apart(a,a) apart(b,a) apart(b,b)")
	checkAssert(t, base, "edge(b,a)", api.OK, 0)
	checkAskAll(t, base, "path(X,Y)", "path(a,a) path(a,b) path(b,a) path(b,b)", "single", "", "apart(X,Y)", "")
	checkAsk(t, base, "double", "double")
	checkRetract(t, base, "edge(a,b)", api.OK, 0)
	checkAskAll(t, base, "path(X,Y)", "path(b,a)", "single", "single", "double", "", "apart(X,X)", "apart(a,a) apart(b,b)")
	checkRetract(t, base, "edge(b,a)", api.OK, 0)
	checkAskAll(t, base, "path(X,Y)", "", "single", "single", "node(X)", "")
	twice := load(t, "p(a). p(a). q(X):-p(X).")
	checkAskAll(t, twice, "q(X)", "q(a)", "p(X)", "p(a)")
	checkRetract(t, twice, "p(a)", api.OK, 0)
	checkAskAll(t, twice, "q(X)", "", "p(X)", "")
}

func TestNamesThatAllAskAreNotKept(t *testing.T) {
	base := load(t, "p(a).")
	checkAskAll(t, base, "q(X,Y)", "", "q", "", "q(zz)", "", "p(X)", "p(a)", "p", "error 3 at 0")
	checkLayer(t, base, "q", -1)
	checkAssert(t, base, "q(b)", api.OK, 0)
	checkAskAll(t, base, "q(X,Y)", "error 3 at 0", "q", "error 3 at 0", "q(zz)", "", "q(X)", "q(b)")
	checkRetract(t, base, "q(b)", api.OK, 0)
	checkAskAll(t, base, "q", "", "q(b)", "")
	checkPrint(t, base, "p(a).\n")
}

// checkNoneShared looks at the spare room too.
func checkNoneShared(t *testing.T, lists ...[]api.Answer) {
	t.Helper()
	ofAnswers, ofAtoms := map[*api.Answer]int{}, map[*string]int{}
	for _, answers := range lists {
		whole := answers[:cap(answers)]
		for i := range whole {
			ofAnswers[&whole[i]]++
			atoms := whole[i].Atoms[:cap(whole[i].Atoms)]
			for k := range atoms {
				ofAtoms[&atoms[k]]++
			}
		}
	}
	for _, count := range ofAnswers {
		if count > 1 {
			t.Error("P2: two lists of answers share memory")
		}
	}
	for _, count := range ofAtoms {
		if count > 1 {
			t.Error("P2: two lists of atoms share memory")
		}
	}
}

func TestAnswersOfAllAreNewMemory(t *testing.T) {
	base := load(t, "p(a). p(b). p(c). q(X):-p(X). r(X):-p(X),!s(X). s(b).")
	questions := []string{"p(X)", "p(X)", "q(X)", "p(Y)", "p(", "r(X)", "r(X)", "p(a)", "x"}
	turns := turnsOf(base, questions...)
	one, two := base.AskAll(questions...), base.AskAll(questions...)
	alone, _, _ := base.Ask("p(X)")
	checkNoneShared(t, one, two, []api.Answer{{Atoms: alone}})
	for i := range one {
		whole := one[i].Atoms[:cap(one[i].Atoms)]
		for k := range whole {
			whole[k] = "mine"
		}
		one[i] = api.Answer{Error: api.ErrNone, Place: 7}
	}
	checkAssert(t, base, "p(d)", api.OK, 0)
	checkRetract(t, base, "p(a)", api.OK, 0)
	for i := range two {
		if got, want := tell(two[i]), turns[2*i+1]; got != want {
			t.Errorf("P2: the answer to %q was %q, and is now %q", questions[i], want, got)
		}
	}
	checkAskAll(t, base, "p(X)", "p(b) p(c) p(d)", "q(X)", "q(b) q(c) q(d)", "p(", "error 2 at 2", "r(X)", "r(c) r(d)")
}

func TestQuestionsAreUnhurt(t *testing.T) {
	base := load(t, example)
	whole := []string{"ahead", "path(a,X)", "path( a", "apart(X,X)", "zz(", "node(X)", "path(X,Y)", "behind", "", "edge(X,Y)"}
	before := slices.Clone(whole)
	answers := base.AskAll(whole[1:6]...)
	if !slices.Equal(whole, before) {
		t.Errorf("P2: the questions %q are now %q", before, whole)
	}
	want := turnsOf(base, before[1:6]...)
	for i := range whole {
		whole[i] = "node(a)" // they are the caller's again
	}
	for i := range answers {
		if got := tell(answers[i]); got != want[2*i+1] {
			t.Errorf("P2: %q: %q, want %q", before[1+i], got, want[2*i+1])
		}
	}
	checkAskAll(t, base, want...)
	base.AskAll(whole[:0]...)
	if whole[0] != "node(a)" {
		t.Errorf("P2: behind no question stands now %q", whole[0])
	}
}

func TestAskAllChangesNothing(t *testing.T) {
	base, other := load(t, example), load(t, example)
	for range 20 {
		checkAskAll(t, base, "apart(X,d)", "apart(a,d) apart(b,d) apart(c,d) apart(d,d)", "path(zz,X)", "", "path(X", "error 2 at 6")
		checkPrint(t, base, example)
	}
	checkRetract(t, other, "edge(c,a)", api.OK, 0)
	checkAskAll(t, base, "edge(X,a)", "edge(c,a)", "path(c,X)", "path(c,a) path(c,b) path(c,c)")
	checkAskAll(t, other, "edge(X,a)", "", "path(c,X)", "")
}

func TestAskAllEndsItsGoroutines(t *testing.T) {
	base := load(t, example)
	before := runtime.NumGoroutine()
	for range 100 {
		base.AskAll("apart(X,Y)", "path(a", "path(a,X)", "node", "node(X)", strings.Repeat(" ", api.MaxText+1), "x")
	}
	for range 200 { // one that has told its end may still be counted for a moment
		if runtime.NumGoroutine() <= before {
			return
		}
		time.Sleep(10 * time.Millisecond)
	}
	t.Errorf("P8: %d goroutines were there before, %d are after", before, runtime.NumGoroutine())
}

func TestManyAskAllOfOneBase(t *testing.T) {
	base := load(t, example)
	turns := turnsOf(base, "apart(X,d)", "path(a,X)", "path(a", "node(X)", "node", "apart(X,Y)", "zz(X)")
	var group sync.WaitGroup
	for range 8 {
		group.Go(func() {
			for range 50 {
				checkAskAll(t, base, turns...)
				checkAsk(t, base, "apart(X,X)", "apart(d,d)")
				checkLayer(t, base, "apart", 1)
				checkPrint(t, base, example)
			}
		})
	}
	group.Wait()
}
