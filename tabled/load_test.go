package tabled_test

import (
	"strings"
	"testing"

	"tabled/api"
)

func TestLoadExamples(t *testing.T) {
	checkLoads(t, []loads{
		{"", api.OK, 0},
		{example, api.OK, 0},
		{"p(X).", api.ErrUnsafe, 2},
		{"p(a):-q(X),!r(X,Y).", api.ErrUnsafe, 16},
		{"p(a).p.", api.ErrArity, 5},
		{"p:-!q. q:-p.", api.ErrLayers, 3},
		{"p:-!p.", api.ErrLayers, 3},
		{"p:-q", api.ErrSyntax, 4},
		{"p:-", api.ErrSyntax, 3},
		{"P.", api.ErrSyntax, 0},
		{"p(a,b,c,d).", api.ErrSyntax, 7},
	})
}

func TestLoadLimits(t *testing.T) {
	blanks := func(n int) string { return strings.Repeat(" ", n) }
	checkLoads(t, []loads{
		{"p." + blanks(api.MaxText-2), api.OK, 0},
		{"p." + blanks(api.MaxText-1), api.ErrLimit, 0},
		{blanks(api.MaxText), api.OK, 0},
		{blanks(api.MaxText + 1), api.ErrLimit, 0},
		{"p" + blanks(api.MaxText-1), api.ErrSyntax, api.MaxText},
		{blanks(api.MaxText-1) + "?", api.ErrSyntax, api.MaxText - 1},
		{strings.Repeat("\xff", 1<<20), api.ErrLimit, 0},

		{strings.Repeat("p.", api.MaxClauses), api.OK, 0},
		{strings.Repeat("p.", api.MaxClauses) + " \n", api.OK, 0},
		{strings.Repeat("p.", api.MaxClauses) + "p.", api.ErrSyntax, 80},
		{strings.Repeat("p.", api.MaxClauses) + " \np", api.ErrSyntax, 82},
		{strings.Repeat("p:-q.", api.MaxClauses), api.OK, 0},

		{"p:-a,!b,c,!d.", api.OK, 0},
		{"p:-a,!b,c,!d,e.", api.ErrSyntax, 12},
		{"p:-a,!b,c,!d ,", api.ErrSyntax, 13},

		{"p(a,b,c).", api.OK, 0},
		{"p:-q(a,b,c).", api.OK, 0},
		{"p:-q(a,b,c,d).", api.ErrSyntax, 10},
		{"p(a,b,c ,", api.ErrSyntax, 8},

		{"abcdefghijkl.", api.OK, 0},
		{"abcdefghijklm.", api.ErrSyntax, 12},
		{"a00000000000.", api.OK, 0},
		{"a000000000000.", api.ErrSyntax, 12},
		{"p(abcdefghijk9).", api.OK, 0},
		{"p(abcdefghijkl9).", api.ErrSyntax, 14},
		{"p:-q(AbcdEFGHIjk9).", api.OK, 0},
		{"p:-q(AbcdEFGHIjkl9).", api.ErrSyntax, 17},
	})
}

// tokens that a blank may stand between.
var tokens = []string{"p1", "(", "a1", ",", "Xy", ",", "b", ")", ":-", "q", "(", "Xy", ",", "Z0", ")", ",", "!", "r", "(", "Z0", ")", ",", "!", "s", ".", "t", ".", "ab", "(", "c", ")", "."}

const tokensPrinted = "p1(a1,Xy,b):-q(Xy,Z0),!r(Z0),!s.\nt.\nab(c).\n"

func TestBlanksBetweenTokens(t *testing.T) {
	for _, blank := range []string{"", " ", "\n", " \n \n\n"} {
		checkPrint(t, load(t, strings.Join(tokens, blank)), tokensPrinted)
		checkPrint(t, load(t, blank+strings.Join(tokens, blank)+blank), tokensPrinted)
		for i := range len(tokens) + 1 {
			text := strings.Join(tokens[:i], "") + blank + strings.Join(tokens[i:], "")
			checkPrint(t, load(t, text), tokensPrinted)
		}
	}
}

func TestBlanksWithinTokens(t *testing.T) {
	for i, token := range tokens {
		if len(token) != 2 {
			continue
		}
		before, behind := strings.Join(tokens[:i], "")+token[:1], token[1:]+strings.Join(tokens[i+1:], "")
		for _, blank := range []string{" ", "\n", " \n "} {
			place := len(before)
			if token != ":-" { // a blank may end a word, so that the fault is what follows it
				place += len(blank)
			}
			checkLoads(t, []loads{{before + blank + behind, api.ErrSyntax, place}})
		}
	}
}

func TestOtherBytesAreNoBlanks(t *testing.T) {
	for _, other := range []string{"\t", "\r", "\v", "\f", "\x00", "\x1f", "\u00a0", "\u2003", "_", "%", "\xff"} {
		for i := range len(tokens) + 1 {
			before := strings.Join(tokens[:i], "")
			checkLoads(t, []loads{{before + other + strings.Join(tokens[i:], ""), api.ErrSyntax, len(before)}})
		}
	}
}

func TestLoadSyntax(t *testing.T) {
	checkLoads(t, []loads{
		{".", api.ErrSyntax, 0},
		{"1.", api.ErrSyntax, 0},
		{"!p.", api.ErrSyntax, 0},
		{"(a).", api.ErrSyntax, 0},
		{":-p.", api.ErrSyntax, 0},
		{"pQ.", api.ErrSyntax, 1},
		{"p", api.ErrSyntax, 1},
		{"p \n", api.ErrSyntax, 3},
		{"p q.", api.ErrSyntax, 2},
		{"p,q.", api.ErrSyntax, 1},
		{"p..", api.ErrSyntax, 2},
		{"p. .", api.ErrSyntax, 3},
		{"p!", api.ErrSyntax, 1},
		{"p-q.", api.ErrSyntax, 1},
		{"p().", api.ErrSyntax, 2},
		{"p(,a).", api.ErrSyntax, 2},
		{"p(a,).", api.ErrSyntax, 4},
		{"p(a", api.ErrSyntax, 3},
		{"p(a.", api.ErrSyntax, 3},
		{"p(a;b).", api.ErrSyntax, 3},
		{"p(a b).", api.ErrSyntax, 4},
		{"p(aB).", api.ErrSyntax, 3},
		{"p(a(b)).", api.ErrSyntax, 3},
		{"p(!a).", api.ErrSyntax, 2},
		{"p(1).", api.ErrSyntax, 2},
		{"p(a)(b).", api.ErrSyntax, 4},
		{"p(\u00e9).", api.ErrSyntax, 2},
		{"p(X\u00e9).", api.ErrSyntax, 3},
		{"p:", api.ErrSyntax, 2},
		{"p:q.", api.ErrSyntax, 2},
		{"p:--q.", api.ErrSyntax, 3},
		{"p:-.", api.ErrSyntax, 3},
		{"p:-Q.", api.ErrSyntax, 3},
		{"p:-!", api.ErrSyntax, 4},
		{"p:-!.", api.ErrSyntax, 4},
		{"p:-!!q.", api.ErrSyntax, 4},
		{"p:-! !q.", api.ErrSyntax, 5},
		{"p:-q,.", api.ErrSyntax, 5},
		{"p:-q,", api.ErrSyntax, 5},
		{"p:-,q.", api.ErrSyntax, 3},
		{"p:-q r.", api.ErrSyntax, 5},
		{"p:-q:-r.", api.ErrSyntax, 4},
		{"p:-q\n", api.ErrSyntax, 5},
	})
}

func TestLoadArity(t *testing.T) {
	checkLoads(t, []loads{
		{"p. p.", api.OK, 0},
		{"p(a). p(b).", api.OK, 0},
		{"p(p,p):-p(p,p).", api.OK, 0}, // a constant is no name
		{"p(q). q(p,p).", api.OK, 0},
		{"p. \n p ( a ) .", api.ErrArity, 5},
		{"p(a). p(a,b). p.", api.ErrArity, 6},
		{"p:-p(a).", api.ErrArity, 3},
		{"p:-q,! q(a).", api.ErrArity, 7},
		{"p:-q(a,b),r. s:-r. t. q(a,b,c).", api.ErrArity, 22},
		{"p(a,b). q(a). r:-q(b),p(a).", api.ErrArity, 22},
	})
}

func TestLoadUnsafe(t *testing.T) {
	checkLoads(t, []loads{
		{"p(X):-q(X).", api.OK, 0},
		{"p:-q(X).", api.OK, 0},
		{"p(X):-!r(X),q(X).", api.OK, 0},
		{"p(X,Y):-q(X),q(Y),!r(Y,X).", api.OK, 0},
		{"p(a,X,Y).", api.ErrUnsafe, 4},
		{"p( a , Xyz ):-q.", api.ErrUnsafe, 7},
		{"p(Y):-q(X).", api.ErrUnsafe, 2},
		{"p(X):-q(x).", api.ErrUnsafe, 2},
		{"p(X):-q(XX).", api.ErrUnsafe, 2},
		{"p(X):-!q(X).", api.ErrUnsafe, 2},
		{"p:-!q(X),!r(Y),s(X).", api.ErrUnsafe, 12},
		{"p(X,Y):-q(X,Z),!r(W).", api.ErrUnsafe, 4},
		{"p(X):-q(X). r(X):-s.", api.ErrUnsafe, 14}, // each clause has variables of its own
		{"p(X):-q. r(X):-q(X).", api.ErrArity, 15},
		{"p(a):-q(X). r(b,X). s(X).", api.ErrUnsafe, 16},
	})
}

func TestLoadLayers(t *testing.T) {
	checkLoads(t, []loads{
		{"p:-p.", api.OK, 0},
		{"p:-q. q:-r. r:-p.", api.OK, 0},
		{"p:-!q. p:-r,!q. q:-q.", api.OK, 0},
		{"p:-!q. q:-!r. r:-!s.", api.OK, 0},
		{"p(X):-q(X),!r(X). r(X):-s(X,Y),!t(Y). q(a):-p(a).", api.OK, 0},
		{"a:-!b. c:-a,b.", api.OK, 0}, // c depends on both, but neither on c
		{"p:-q, ! p.", api.ErrLayers, 6},
		{"p:-!q. q:-!p.", api.ErrLayers, 3},
		{"q:-p. p:-q,!r,!q.", api.ErrLayers, 14},
		{"p:-!q. q:-r. r:-s. s:-a,b,c,t. t:-p.", api.ErrLayers, 3},
		{"t:-p. s:-t. r:-s. q:-r. p:-!a,!q.", api.ErrLayers, 30},
		{"a:-!b. b:-!c. c:-b.", api.ErrLayers, 10},
		{"p:-!q. q:-a. q:-b. q:-p. q:-c.", api.ErrLayers, 3}, // by a later rule of the same head
		{"p:-!q. q:-!r. r:-!p.", api.ErrLayers, 3},           // by negative literals alone
		{"p(q):-!q(p). q(X):-p(X).", api.ErrLayers, 6},
		{"p(q):-!r. r. q:-s(r,p).", api.OK, 0}, // a constant is no name
	})
}

func TestWhichErrorComesFirst(t *testing.T) {
	long := strings.Repeat(" ", api.MaxText)
	checkLoads(t, []loads{
		{"p(X):-!p. ?" + long, api.ErrLimit, 0},
		{"p:-!p. q(X). q. r", api.ErrSyntax, 17},
		{"p:-!p. q(X). q.", api.ErrArity, 13},
		{"p:-!p. q(X).", api.ErrUnsafe, 9},
		{"p:-!p. q(a).", api.ErrLayers, 3},
		{"q(X). q. r:", api.ErrSyntax, 11},
		{"p:-!p. r. r(a).", api.ErrArity, 10},
		{"q(X). r. r(a).", api.ErrArity, 9},
	})
}
