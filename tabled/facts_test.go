package tabled_test

import (
	"strconv"
	"strings"
	"testing"

	"tabled/api"
	"tabled/tabled"
)

func TestPrint(t *testing.T) {
	checkPrint(t, load(t, ""), "")
	checkPrint(t, load(t, " \n "), "")
	checkPrint(t, load(t, example), example)
	checkPrint(t, load(t, strings.ReplaceAll(example, "\n", "")), example)
	checkPrint(t, load(t, "q(b) . q(a).\nq(b). p:-q(a)."), "q(b).\nq(a).\nq(b).\np:-q(a).\n")
	checkPrint(t, load(t, "p:-q.p:-q."), "p:-q.\np:-q.\n")
}

func TestPrintKeepsTheOrder(t *testing.T) {
	base := load(t, "p(a). q:-p(a). p(b). p(a). r.")
	checkAssert(t, base, "z", api.OK, 0)
	checkAssert(t, base, " p ( c ) ", api.OK, 0)
	checkAssert(t, base, "a", api.OK, 0)
	checkPrint(t, base, "p(a).\nq:-p(a).\np(b).\np(a).\nr.\nz.\np(c).\na.\n")
	checkRetract(t, base, "p(a)", api.OK, 0)
	checkRetract(t, base, "\nz", api.OK, 0)
	checkPrint(t, base, "q:-p(a).\np(b).\nr.\np(c).\na.\n")
	checkAssert(t, base, "z", api.OK, 0)
	checkAssert(t, base, "p(a)", api.OK, 0) // once of the program, now asserted
	checkPrint(t, base, "q:-p(a).\np(b).\nr.\np(c).\na.\nz.\np(a).\n")
}

func TestAssertExamples(t *testing.T) {
	base := load(t, example)
	checkAssert(t, base, "edge(a,b)", api.ErrTwice, 0)
	checkAssert(t, base, "edge(a)", api.ErrArity, 0)
	checkRetract(t, base, "edge(c,a)", api.OK, 0)
	checkPrint(t, base, strings.Replace(example, "edge(c,a).\n", "", 1))
}

// both: Assert and Retract refuse these alike.
func both(t *testing.T, base *tabled.Base, text string, want api.Errno, place int) {
	t.Helper()
	checkAssert(t, base, text, want, place)
	checkRetract(t, base, text, want, place)
}

func TestFactsThatAreRefused(t *testing.T) {
	base := load(t, example)
	both(t, base, "", api.ErrSyntax, 0)
	both(t, base, " \n", api.ErrSyntax, 2)
	both(t, base, "edge(a,b).", api.ErrSyntax, 9)
	both(t, base, "edge(a,b) edge", api.ErrSyntax, 10)
	both(t, base, "!edge(a,b)", api.ErrSyntax, 0)
	both(t, base, "p:-q", api.ErrSyntax, 1)
	both(t, base, "p,q", api.ErrSyntax, 1)
	both(t, base, "Edge(a,b)", api.ErrSyntax, 0)
	both(t, base, "edge(a,b", api.ErrSyntax, 8)
	both(t, base, "edge()", api.ErrSyntax, 5)
	both(t, base, "edge(a,b,c,d)", api.ErrSyntax, 10)
	both(t, base, "ed ge(a,b)", api.ErrSyntax, 3)
	both(t, base, "abcdefghijklm", api.ErrSyntax, 12)
	both(t, base, "\tp", api.ErrSyntax, 0)
	both(t, base, "p\x00", api.ErrSyntax, 1)
	both(t, base, "edge", api.ErrArity, 0)
	both(t, base, " \nedge(a)", api.ErrArity, 2)
	both(t, base, "path(a,b,c)", api.ErrArity, 0)  // a name of rules alone
	both(t, base, "apart(X,Y,Z)", api.ErrArity, 0) // a head, and before ErrGround
	both(t, base, "edge(a,X)", api.ErrGround, 7)
	both(t, base, " edge ( X , Y )", api.ErrGround, 8)
	both(t, base, "new(a,b,Ccc)", api.ErrGround, 8)
	checkPrint(t, base, example)
}

func TestNamesOfBodiesHaveTheirNumberOfTerms(t *testing.T) {
	base := load(t, "p:-q(X),!r(X,X),s.")
	both(t, base, "q", api.ErrArity, 0)
	both(t, base, "r(a)", api.ErrArity, 0)
	both(t, base, "s(a)", api.ErrArity, 0)
	for _, fact := range []string{"p", "q(a)", "r(a,b)", "s"} {
		checkRetract(t, base, fact, api.ErrNone, 0) // the rule's head is no fact
		checkAssert(t, base, fact, api.OK, 0)
		checkAssert(t, base, fact, api.ErrTwice, 0)
	}
	checkRetract(t, base, "p", api.OK, 0)
	checkPrint(t, base, "p:-q(X),!r(X,X),s.\nq(a).\nr(a,b).\ns.\n")
	checkAssert(t, base, "p(a)", api.ErrArity, 0) // the rule still knows it
}

func TestFactsLongerThanMayBe(t *testing.T) {
	base := load(t, "p.")
	full := "x" + strings.Repeat(" ", api.MaxText-1)
	checkRetract(t, base, full, api.ErrNone, 0)
	checkAssert(t, base, full, api.OK, 0)
	checkAssert(t, base, full, api.ErrTwice, 0)
	both(t, base, full+" ", api.ErrLimit, 0)
	both(t, base, full+"?", api.ErrLimit, 0)
	both(t, base, full[:api.MaxText-1]+"?", api.ErrSyntax, api.MaxText-1)
	both(t, base, strings.Repeat(" ", api.MaxText), api.ErrSyntax, api.MaxText)
	both(t, base, strings.Repeat("?", 1<<20), api.ErrLimit, 0)
	checkRetract(t, base, full, api.OK, 0)
	checkPrint(t, base, "p.\n")
}

func TestWordsAndTermsOfFactsAtTheirLimits(t *testing.T) {
	base := load(t, "")
	fact := "abcdefghijk1(abcdefghijkl,a00000000000,c)"
	checkAssert(t, base, fact, api.OK, 0)
	checkAssert(t, base, "p(Abcdefghijkl)", api.ErrGround, 2)
	both(t, base, "p(Abcdefghijklm)", api.ErrSyntax, 14)
	both(t, base, "p(abcdefghijklm)", api.ErrSyntax, 14)
	checkPrint(t, base, fact+".\n")
}

func TestAFullBase(t *testing.T) {
	base := load(t, "p(a):-q. "+strings.Repeat("r.", api.MaxClauses-2))
	checkAssert(t, base, "q", api.OK, 0)
	before := base.Print()
	checkAssert(t, base, "p(b)", api.ErrLimit, 0)
	checkAssert(t, base, "q", api.ErrTwice, 0)
	checkAssert(t, base, "p", api.ErrArity, 0)
	checkAssert(t, base, "p(X)", api.ErrGround, 2)
	checkAssert(t, base, "p(", api.ErrSyntax, 2)
	checkPrint(t, base, before)
	checkRetract(t, base, "r", api.OK, 0) // all of them
	checkPrint(t, base, "p(a):-q.\nq.\n")
	for i := range api.MaxClauses - 2 {
		checkAssert(t, base, "p(a"+strconv.Itoa(i)+")", api.OK, 0)
	}
	checkAssert(t, base, "p(b)", api.ErrLimit, 0)
	checkRetract(t, base, "q", api.OK, 0)
	checkAssert(t, base, "p(b)", api.OK, 0)
	checkAssert(t, base, "p(c)", api.ErrLimit, 0)
}

func TestRetractForgetsNames(t *testing.T) {
	base := load(t, "p(a). p(b). q:-r(a). r(a).")
	checkRetract(t, base, "p(a)", api.OK, 0)
	both(t, base, "p", api.ErrArity, 0) // p(b) still knows it
	checkRetract(t, base, "p(b)", api.OK, 0)
	checkRetract(t, base, "p(b)", api.ErrNone, 0)
	checkRetract(t, base, "p", api.ErrNone, 0)
	checkAssert(t, base, "p(a,b,c)", api.OK, 0)
	checkAssert(t, base, "p(a)", api.ErrArity, 0)
	checkRetract(t, base, "r(a)", api.OK, 0)
	checkAssert(t, base, "r", api.ErrArity, 0) // the rule still knows it
	checkPrint(t, base, "q:-r(a).\np(a,b,c).\n")
}

func TestRefusedFactsLeaveNoName(t *testing.T) {
	base := load(t, "")
	checkAssert(t, base, "p(a,X)", api.ErrGround, 4)
	checkRetract(t, base, "p(a,b)", api.ErrNone, 0)
	checkAssert(t, base, "p", api.OK, 0)
	full := load(t, strings.Repeat("q.", api.MaxClauses))
	checkAssert(t, full, "p(a)", api.ErrLimit, 0)
	checkRetract(t, full, "q", api.OK, 0)
	checkAssert(t, full, "p", api.OK, 0)
}

func TestFactsThatDifferALittle(t *testing.T) {
	base := load(t, "p(a,b).")
	for _, fact := range []string{"p(b,a)", "p(a,a)", "p(a,b1)", "p(aa,b)", "pp(a,b)", "a"} {
		checkRetract(t, base, fact, api.ErrNone, 0)
		checkAssert(t, base, fact, api.OK, 0)
	}
	checkRetract(t, base, "p(a,b)", api.OK, 0)
	checkPrint(t, base, "p(b,a).\np(a,a).\np(a,b1).\np(aa,b).\npp(a,b).\na.\n")
}
