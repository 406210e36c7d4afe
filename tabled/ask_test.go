package tabled_test

import (
	"slices"
	"strconv"
	"strings"
	"sync"
	"testing"

	"tabled/api"
	"tabled/tabled"
)

// checkAsk takes the answers with blanks between.
func checkAsk(t *testing.T, base *tabled.Base, question, want string) {
	t.Helper()
	atoms, errno, place := base.Ask(question)
	if got := strings.Join(atoms, " "); got != want || errno != api.OK || place != 0 {
		t.Errorf("P7: Ask(%.60q) = %q, %d, %d, want %q, of %q", question, got, errno, place, want, base.Print())
	}
}

func checkAskRefused(t *testing.T, base *tabled.Base, question string, want api.Errno, wantPlace int) {
	t.Helper()
	if atoms, errno, place := base.Ask(question); atoms != nil || errno != want || place != wantPlace {
		t.Errorf("P7: Ask(%.60q) = %q, %d, %d, want %d, %d", question, atoms, errno, place, want, wantPlace)
	}
}

// asks: a program, and questions with their answers by turns.
type asks struct {
	program string
	turns   []string
}

func checkAsks(t *testing.T, cases []asks) {
	t.Helper()
	for _, c := range cases {
		base := load(t, c.program)
		for i := 0; i < len(c.turns); i += 2 {
			checkAsk(t, base, c.turns[i], c.turns[i+1])
		}
	}
}

func TestAskExamples(t *testing.T) {
	base := load(t, example)
	checkAsk(t, base, "path(a,X)", "path(a,a) path(a,b) path(a,c)")
	checkAsk(t, base, "apart(X,X)", "apart(d,d)")
	checkAsk(t, base, "apart( a , X )", "apart(a,d)")
	checkRetract(t, base, "edge(c,a)", api.OK, 0)
	checkAsk(t, base, "path(X,a)", "")
	checkAsk(t, base, "node(c)", "")
	checkAsk(t, base, "apart(a,X)", "apart(a,a) apart(a,d)")
}

func TestAskForFacts(t *testing.T) {
	checkAsks(t, []asks{
		{"", []string{"p", "", "p(X)", "", "p(a,b,c)", "", "p(X,Y,X)", ""}},
		{"p. q(a). q(b). q(a).", []string{"p", "p", "q(X)", "q(a) q(b)", "q(a)", "q(a)", "q(c)", "", "r", "", "r(X)", ""}},
		{"e(a,b). e(b,b). e(b,c). e(c,c). e(a,a1).", []string{
			"e(X,Y)", "e(a,a1) e(a,b) e(b,b) e(b,c) e(c,c)",
			"e(Y,X)", "e(a,a1) e(a,b) e(b,b) e(b,c) e(c,c)",
			"e(a,X)", "e(a,a1) e(a,b)", "e(X,c)", "e(b,c) e(c,c)", "e(X,X)", "e(b,b) e(c,c)",
			"e(b,c)", "e(b,c)", "e(c,b)", "", "e(d,X)", "", "e(X,d)", "", "e(d,d)", "", "e(e,X)", "",
		}},
		{"m(a,b,a). m(a,b,b). m(a,a,a). m(b,a,a). m(b,b,a).", []string{
			"m(X,Y,X)", "m(a,a,a) m(a,b,a)", "m(X,X,Y)", "m(a,a,a) m(b,b,a)", "m(Y,X,X)", "m(a,a,a) m(a,b,b) m(b,a,a)",
			"m(X,X,X)", "m(a,a,a)", "m(X,b,X)", "m(a,b,a)", "m(X,X,a)", "m(a,a,a) m(b,b,a)", "m(a,X,X)", "m(a,a,a) m(a,b,b)",
			"m(b,X,Y)", "m(b,a,a) m(b,b,a)", "m(X,b,Y)", "m(a,b,a) m(a,b,b) m(b,b,a)", "m(X,Y,b)", "m(a,b,b)",
			"m(X,Y,Z)", "m(a,a,a) m(a,b,a) m(a,b,b) m(b,a,a) m(b,b,a)", "m(a,b,X)", "m(a,b,a) m(a,b,b)", "m(b,a,a)", "m(b,a,a)", "m(b,a,b)", "",
		}},
		// names that are constants elsewhere
		{"a(b). b(a). c.", []string{"a(X)", "a(b)", "b(X)", "b(a)", "a(a)", "", "a(c)", "", "c", "c"}},
	})
}

func TestAskWithBlanks(t *testing.T) {
	base := load(t, "p. e(a,b).")
	checkAsk(t, base, " p\n", "p")
	checkAsk(t, base, "\n\n e (\na ,Xyz ) ", "e(a,b)")
	checkAsk(t, base, "e(X,b)"+strings.Repeat(" ", api.MaxText-len("e(X,b)")), "e(a,b)")
}

func TestAnswersAreSortedByBytes(t *testing.T) {
	checkAsks(t, []asks{
		{"p(b). p(a9). p(a10). p(a). p(ab). p(aa). p(z). p(a1).", []string{"p(X)", "p(a) p(a1) p(a10) p(a9) p(aa) p(ab) p(b) p(z)"}},
		{"p(a1,a). p(a,z). p(a,a). p(b,a). p(a1,b).", []string{"p(X,Y)", "p(a,a) p(a,z) p(a1,a) p(a1,b) p(b,a)"}},
		{"q(c):-r. q(b):-r. q(a):-r. r.", []string{"q(X)", "q(a) q(b) q(c)"}},
		{"q(X):-f(X). q(X):-g(X). f(c). f(a). g(b). g(d). q(bb).", []string{"q(X)", "q(a) q(b) q(bb) q(c) q(d)"}},
	})
}

func TestEachAnswerOnce(t *testing.T) {
	checkAsks(t, []asks{
		{"p(a). p(a). p(X):-q(X). p(X):-q(X). p(X):-q(X),r(Y). p(a):-r(X). q(a). r(b). r(c).", []string{"p(X)", "p(a)", "p(a)", "p(a)"}},
		{"s. s. s:-s. s:-t. t:-s. t.", []string{"s", "s", "t", "t"}},
	})
}

func TestAskForWhatRulesGive(t *testing.T) {
	checkAsks(t, []asks{
		// what the head makes of the question
		{"p(X,X):-q(X). q(a). q(b).", []string{"p(X,Y)", "p(a,a) p(b,b)", "p(a,X)", "p(a,a)", "p(X,b)", "p(b,b)", "p(a,b)", "", "p(X,X)", "p(a,a) p(b,b)", "p(c,X)", ""}},
		{"p(X,Y):-q(X),q(Y). q(a). q(b).", []string{"p(Z,Z)", "p(a,a) p(b,b)", "p(Y,X)", "p(a,a) p(a,b) p(b,a) p(b,b)", "p(b,X)", "p(b,a) p(b,b)"}},
		{"p(Y,X,Y):-q(X,Y). q(a,b). q(c,c).", []string{"p(X,Y,Z)", "p(b,a,b) p(c,c,c)", "p(X,X,Y)", "p(c,c,c)", "p(X,Y,X)", "p(b,a,b) p(c,c,c)", "p(b,X,Y)", "p(b,a,b)", "p(X,a,Y)", "p(b,a,b)", "p(X,Y,a)", ""}},
		// what the body makes of a literal
		{"p(X):-q(X,X). q(a,b). q(b,b).", []string{"p(X)", "p(b)", "p(a)", ""}},
		{"p(X):-q(a,X,a). q(a,b,a). q(a,c,b). q(b,d,a).", []string{"p(X)", "p(b)"}},
		{"p(X,Z):-q(X,Y),q(Y,Z). q(a,b). q(b,c). q(b,d). q(x,y).", []string{"p(X,Y)", "p(a,c) p(a,d)", "p(X,d)", "p(a,d)", "p(b,X)", ""}},
		{"p(X):-q(Y),r(X). q(a). r(b).", []string{"p(X)", "p(b)"}},
		{"p(X):-q(Y),r(X). r(b).", []string{"p(X)", ""}},
		{"p(A,F,H):-q(A,B,C),q(C,D,E),q(E,F,G),q(G,H,A). q(a,b,a).", []string{"p(X,Y,Z)", "p(a,b,b)"}},
		// the same variable means nothing from rule to rule
		{"p(X):-q(Y,X). q(Y,X):-r(X,Y). r(a,b).", []string{"p(X)", "p(a)", "q(X,Y)", "q(b,a)", "q(a,X)", "", "q(Y,a)", "q(b,a)"}},
		// constants that stand in rules alone
		{"p(c,Y):-q(X),q(Y). q(a). q(b).", []string{"p(X,Y)", "p(c,a) p(c,b)", "p(a,X)", "", "p(X,X)", "", "p(c,b)", "p(c,b)"}},
		{"p(k):-q. q:-!r(l). s(X):-p(X).", []string{"p(X)", "p(k)", "s(X)", "s(k)", "q", "q", "r(l)", "", "s(l)", ""}},
		{"p(X):-q(X,k). q(a,k):-s. s.", []string{"p(X)", "p(a)", "q(X,Y)", "q(a,k)"}},
		// without variables, and without constants
		{"p:-q,r. q:-r. r.", []string{"p", "p", "q", "q"}},
		{"p:-q,r. q:-r. s.", []string{"p", "", "q", "", "r", "", "s", "s"}},
		{"p(X):-q(X). r:-q(X).", []string{"p(X)", "", "p(a)", "", "r", "", "q(Y)", ""}},
		{"p(a):-q(b). q(b). p(c):-q(d).", []string{"p(X)", "p(a)", "q(X)", "q(b)"}},
		// the same rule or literal twice
		{"p(X):-q(X),q(X),q(X),q(X). p(X):-q(X). q(a).", []string{"p(X)", "p(a)"}},
	})
}

func TestAskRound(t *testing.T) {
	const chain = "e(a,b). e(b,c). e(c,d). e(d,b). "
	const all = "p(a,b) p(a,c) p(a,d) p(b,b) p(b,c) p(b,d) p(c,b) p(c,c) p(c,d) p(d,b) p(d,c) p(d,d)"
	for _, rule := range []string{"p(X,Z):-p(X,Y),e(Y,Z).", "p(X,Z):-e(X,Y),p(Y,Z).", "p(X,Z):-p(X,Y),p(Y,Z).", "p(X,Z):-e(Y,Z),p(X,Y)."} {
		for _, program := range []string{chain + "p(X,Y):-e(X,Y)." + rule, rule + "p(X,Y):-e(X,Y)." + chain} {
			checkAsks(t, []asks{{program, []string{
				"p(X,Y)", all, "p(a,X)", "p(a,b) p(a,c) p(a,d)", "p(X,a)", "", "p(X,b)", "p(a,b) p(b,b) p(c,b) p(d,b)",
				"p(X,X)", "p(b,b) p(c,c) p(d,d)", "p(a,a)", "", "p(d,c)", "p(d,c)", "p(x,X)", "",
			}}})
		}
	}
	checkAsks(t, []asks{
		{"p:-p.", []string{"p", ""}},
		{"p:-q. q:-r. r:-p.", []string{"p", "", "q", "", "r", ""}},
		{"p:-q. q:-r. r:-p. r:-s. s.", []string{"p", "p", "q", "q", "r", "r"}},
		{"p(X):-q(X). q(X):-p(X). p(a). q(b).", []string{"p(X)", "p(a) p(b)", "q(X)", "q(a) q(b)", "p(b)", "p(b)", "q(a)", "q(a)"}},
		{"p(X,Y):-p(Y,X). p(a,b). p(c,c).", []string{"p(X,Y)", "p(a,b) p(b,a) p(c,c)", "p(b,X)", "p(b,a)", "p(X,b)", "p(a,b)"}},
		{"p(Y,Z,X):-p(X,Y,Z). p(a,b,c).", []string{"p(X,Y,Z)", "p(a,b,c) p(b,c,a) p(c,a,b)", "p(X,a,Y)", "p(c,a,b)", "p(a,c,X)", ""}},
		{"even(z). even(Y):-s(X,Y),odd(X). odd(Y):-s(X,Y),even(X). s(z,a). s(a,b). s(b,c). s(c,d).", []string{
			"even(X)", "even(b) even(d) even(z)", "odd(X)", "odd(a) odd(c)", "even(d)", "even(d)", "odd(d)", "",
		}},
		{"same(X,X):-v(X). same(X,Y):-up(X,A),same(A,B),up(Y,B). v(r). v(a). v(b). up(a,r). up(b,r). up(c,a). up(d,b).", []string{
			"same(c,X)", "same(c,c) same(c,d)", "same(a,X)", "same(a,a) same(a,b)", "same(X,d)", "same(c,d) same(d,d)",
		}},
	})
}

func TestAskUnderNegations(t *testing.T) {
	checkAsks(t, []asks{
		{"p:-!q.", []string{"p", "p", "q", ""}},
		{"p:-!q. q.", []string{"p", "", "q", "q"}},
		{"p. q:-p. r:-!q. s:-!r. t:-!s. u:-!t,s.", []string{"q", "q", "r", "", "s", "s", "t", "", "u", "u"}},
		// ahead of the positive literal that has its variable, and behind it
		{"p(X):-!q(X),r(X). q(a). r(a). r(b).", []string{"p(X)", "p(b)", "p(a)", "", "p(b)", "p(b)"}},
		{"p(X):-r(X),!q(X). q(a). r(a). r(b).", []string{"p(X)", "p(b)", "p(a)", "", "p(b)", "p(b)"}},
		{"p(X):-!q(X),r(X),!s(X),t(X). q(a). s(b). r(a). r(b). r(c). r(d). t(a). t(b). t(c).", []string{"p(X)", "p(c)"}},
		// ground ones
		{"p(X):-r(X),!q(a),!q(c). q(a). r(b).", []string{"p(X)", ""}},
		{"p(X):-r(X),!q(b),!q(c). q(a). r(b).", []string{"p(X)", "p(b)"}},
		{"p(X):-r(X,Y),!r(Y,X). r(a,b). r(b,a). r(c,d). r(e,e).", []string{"p(X)", "p(c)"}},
		// several layers up
		{"p(X):-q(X),!r(X). r(X):-s(X),!t(X). s(X):-q(X),!u(X). t(a). u(c). q(a). q(b). q(c).", []string{
			"p(X)", "p(a) p(c)", "r(X)", "r(b)", "s(X)", "s(a) s(b)",
		}},
		// a name asked by itself and under a negation too, in either order
		{"t(X):-b(X). t(X):-c(X),!n(X). n(X):-b(Y),d(X). b(X):-e(X). c(k). d(k). e(m).", []string{"t(X)", "t(m)", "n(X)", "n(k)"}},
		{"t(X):-c(X),!n(X). t(X):-b(X). n(X):-b(Y),d(X). b(X):-e(X). c(k). d(k). e(m).", []string{"t(X)", "t(m)", "n(X)", "n(k)"}},
		{"t(X):-b(X),c(Y),!n(Y). n(X):-b(X),b(Y),d(Y). b(X):-b2(X). b2(X):-b3(X). b3(X):-e(X). c(k). e(k). e(m). d(m).", []string{"t(X)", "", "n(X)", "n(k) n(m)"}},
		// what a rule under a negation finds late must still come to those that asked before
		{"t(X):-a1(X). t(X):-s(X),!n(X). a1(X):-b(X). b(X):-e(X). n(X):-b(X),f(X). s(a). e(a). e(c). f(c).", []string{"t(X)", "t(a) t(c)"}},
		// rings that deny what is below them
		{"p(X,Y):-e(X,Y),!f(X,Y). p(X,Z):-p(X,Y),p(Y,Z). f(X,Y):-g(Y,X). e(a,b). e(b,c). e(c,d). g(c,b).", []string{"p(X,Y)", "p(a,b) p(c,d)"}},
	})
}

func TestAskIsRefused(t *testing.T) {
	base := load(t, example)
	for _, c := range []struct {
		text  string
		place int
	}{
		{"", 0}, {" \n", 2}, {"path(a,X).", 9}, {"!path(a,X)", 0}, {"path(a,X", 8}, {"path(a X)", 7}, {"Path(a,b)", 0}, {"path()", 5},
		{"path(a,b,c,d)", 10}, {"path(a,b)path(a,b)", 9}, {"pa th(a,b)", 3}, {"abcdefghijklm", 12}, {"p:-q", 1}, {"path(a,!b)", 7},
		{"path(Abcdefghijklm,X)", 17}, {"path(a,_)", 7}, {"path(a,1)", 7}, {"path(a,\xff)", 7}, {"\tpath(a,b)", 0}, {"path(a,b)\x00", 9},
	} {
		checkAskRefused(t, base, c.text, api.ErrSyntax, c.place)
	}
	checkAskRefused(t, base, "path", api.ErrArity, 0)
	checkAskRefused(t, base, " \n path(X)", api.ErrArity, 3)
	checkAskRefused(t, base, "edge(X,Y,Z)", api.ErrArity, 0)
	checkAskRefused(t, base, "apart(zz)", api.ErrArity, 0)
	full := strings.Repeat(" ", api.MaxText-4) + "node"
	checkAskRefused(t, base, full, api.ErrArity, api.MaxText-4)
	checkAskRefused(t, base, " "+full, api.ErrLimit, 0)
	checkAskRefused(t, base, full[1:]+"?", api.ErrSyntax, api.MaxText-1)
	checkAskRefused(t, base, full+"?", api.ErrLimit, 0)
	checkAskRefused(t, base, strings.Repeat("?", 1<<20), api.ErrLimit, 0)
	checkPrint(t, base, example)
}

func TestNamesOfBodiesAreAskedWithTheirNumberOfTerms(t *testing.T) {
	base := load(t, "p:-q(X),!r(X,X).")
	checkAskRefused(t, base, "q", api.ErrArity, 0)
	checkAskRefused(t, base, "r(X)", api.ErrArity, 0)
	checkAsk(t, base, "q(X)", "")
	checkAsk(t, base, "r(a,X)", "")
	checkAsk(t, base, "x(a,X)", "")
}

func TestAskedNamesAreNotKept(t *testing.T) {
	base := load(t, "p(a).")
	checkAsk(t, base, "q(X,Y)", "")
	checkAsk(t, base, "q(zz)", "")
	checkAsk(t, base, "q", "")
	checkLayer(t, base, "q", -1)
	checkAssert(t, base, "q(b)", api.OK, 0)
	checkAsk(t, base, "q(X)", "q(b)")
	checkAskRefused(t, base, "q", api.ErrArity, 0)
	checkRetract(t, base, "q(b)", api.OK, 0)
	checkAsk(t, base, "q", "")
	checkPrint(t, base, "p(a).\n")
}

func TestAskAfterFactsCameAndWent(t *testing.T) {
	base := load(t, "node(X):-edge(X,Y). node(Y):-edge(X,Y). path(X,Y):-edge(X,Y). path(X,Z):-path(X,Y),edge(Y,Z). apart(X,Y):-node(X),node(Y),!path(X,Y). single:-!double. double:-edge(X,Y),edge(Y,X).")
	checkAsk(t, base, "path(X,Y)", "")
	checkAsk(t, base, "single", "single")
	checkAssert(t, base, "edge(a,b)", api.OK, 0)
	checkAsk(t, base, "path(X,Y)", "path(a,b)")
	checkAsk(t, base, "apart(X,Y)", "apart(a,a) apart(b,a) apart(b,b)")
	checkAssert(t, base, "edge(b,a)", api.OK, 0)
	checkAsk(t, base, "path(X,Y)", "path(a,a) path(a,b) path(b,a) path(b,b)")
	checkAsk(t, base, "apart(X,Y)", "")
	checkAsk(t, base, "single", "")
	checkAssert(t, base, "path(b,c)", api.OK, 0) // a fact of a name that rules give too
	checkAsk(t, base, "path(X,c)", "path(b,c)")
	checkRetract(t, base, "edge(a,b)", api.OK, 0)
	checkAsk(t, base, "path(X,Y)", "path(b,a) path(b,c)")
	checkAsk(t, base, "single", "single")
	checkRetract(t, base, "path(b,c)", api.OK, 0)
	checkRetract(t, base, "edge(b,a)", api.OK, 0)
	checkAsk(t, base, "path(X,Y)", "")
	checkAsk(t, base, "node(X)", "")
	twice := load(t, "p(a). p(a). q(X):-p(X).")
	checkAsk(t, twice, "q(X)", "q(a)")
	checkRetract(t, twice, "p(a)", api.OK, 0)
	checkAsk(t, twice, "q(X)", "")
}

func TestAFactThatARuleGivesToo(t *testing.T) {
	base := load(t, "p(a). p(X):-q(X). q(a).")
	checkRetract(t, base, "p(a)", api.OK, 0)
	checkAsk(t, base, "p(X)", "p(a)")
	checkRetract(t, base, "p(a)", api.ErrNone, 0) // it holds, but it is no fact
	checkRetract(t, base, "q(a)", api.OK, 0)
	checkAsk(t, base, "p(X)", "")
}

func TestAnswersAreNewMemory(t *testing.T) {
	base := load(t, "p(a). p(b). p(c). q(X):-p(X).")
	one, _, _ := base.Ask("p(X)")
	two, _, _ := base.Ask("p(X)")
	whole := one[:cap(one)]
	for i := range whole {
		whole[i] = "mine"
	}
	if want := []string{"p(a)", "p(b)", "p(c)"}; !slices.Equal(two, want) {
		t.Errorf("P2: a list that Ask gave is now %q", two)
	}
	checkAsk(t, base, "p(X)", "p(a) p(b) p(c)")
	checkAsk(t, base, "q(X)", "q(a) q(b) q(c)")
	checkAssert(t, base, "p(d)", api.OK, 0)
	checkRetract(t, base, "p(a)", api.OK, 0)
	if want := []string{"p(a)", "p(b)", "p(c)"}; !slices.Equal(two, want) {
		t.Errorf("P2: a list that Ask gave is now %q", two)
	}
	checkPrint(t, base, "p(b).\np(c).\nq(X):-p(X).\np(d).\n")
}

func TestAskingChangesNothing(t *testing.T) {
	base, other := load(t, example), load(t, example)
	for range 20 {
		checkAsk(t, base, "apart(X,d)", "apart(a,d) apart(b,d) apart(c,d) apart(d,d)")
		checkAsk(t, base, "path(zz,X)", "")
		checkAskRefused(t, base, "path(X", api.ErrSyntax, 6)
		checkPrint(t, base, example)
	}
	checkRetract(t, other, "edge(c,a)", api.OK, 0)
	checkAsk(t, base, "edge(X,a)", "edge(c,a)")
	checkAsk(t, other, "edge(X,a)", "")
}

func TestManyAskOneBase(t *testing.T) {
	base := load(t, example)
	var group sync.WaitGroup
	for range 8 {
		group.Go(func() {
			for range 50 {
				checkAsk(t, base, "apart(X,d)", "apart(a,d) apart(b,d) apart(c,d) apart(d,d)")
				checkAsk(t, base, "path(a,X)", "path(a,a) path(a,b) path(a,c)")
			}
		})
	}
	group.Wait()
}

// TestLongWays: each question needs the next one, as many as may be.
func TestLongWays(t *testing.T) {
	for _, backward := range []bool{false, true} {
		plain, denying := load(t, chain("", backward)), load(t, chain("!", backward))
		checkAsk(t, plain, "n0", "")
		for i := range api.MaxClauses + 1 {
			name := "n" + strconv.Itoa(i)
			want := name
			if i%2 == api.MaxClauses%2 {
				want = "" // the last one has no rule, and so it goes on by turns
			}
			checkAsk(t, denying, name, want)
		}
	}
	counter := load(t, "s(a,b). s(b,c). s(c,d). s(d,e). s(e,f). n(f,f,f). n(X,Y,Z):-s(Z,W),n(X,Y,W). n(X,Y,f):-s(Y,W),n(X,W,a). n(X,f,f):-s(X,W),n(W,a,a).")
	checkAsk(t, counter, "n(a,a,a)", "n(a,a,a)")
	checkAsk(t, counter, "n(a,f,X)", "n(a,f,a) n(a,f,b) n(a,f,c) n(a,f,d) n(a,f,e) n(a,f,f)")
	if atoms, errno, place := counter.Ask("n(X,Y,Z)"); len(atoms) != 6*6*6 || errno != api.OK || place != 0 {
		t.Errorf("P7: Ask(n(X,Y,Z)): %d atoms, %d, %d, want %d", len(atoms), errno, place, 6*6*6)
	}
}
