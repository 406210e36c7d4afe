package tabled_test

import (
	"strconv"
	"strings"
	"testing"

	"tabled/api"
)

// constants makes facts with so many different constants, three in each as far as they go.
func constants(count int) string {
	var facts strings.Builder
	for i := 0; i < count; i += 3 {
		facts.WriteString("c")
		for k := range 3 {
			facts.WriteString([]string{"(", ",", ","}[k] + "k" + strconv.Itoa(min(i+k, count-1)))
		}
		facts.WriteString(").")
	}
	return facts.String()
}

const (
	oneVariable     = "p(X):-n(X)."
	twoVariables    = "q(X,Y):-n(X),n(Y)."
	threeVariables  = "r(X,Y,Z):-n(X),n(Y),n(Z)."
	twelveVariables = "s(A,B,C):-r(A,B,C),r(D,E,F),r(G,H,I),r(J,K,L)."
	noVariable      = "t:-u."
)

func checkWork(t *testing.T, program string, want api.Errno) {
	t.Helper()
	base := load(t, program)
	for _, question := range []string{"x", "x(X)", "u"} {
		if want != api.OK {
			checkAskRefused(t, base, question, want, 0)
		} else {
			checkAsk(t, base, question, "")
		}
	}
	checkPrint(t, base, load(t, program).Print())
}

func TestWorkAtTheLimit(t *testing.T) {
	for _, c := range []struct {
		below, more string // of a work of just MaxWork; with more it is above
	}{
		{constants(10) + strings.Repeat(threeVariables, 2), noVariable},
		{constants(12) + threeVariables + twoVariables + strings.Repeat(oneVariable, 10) + strings.Repeat(noVariable, 8), noVariable},
		// 2 to the powers of 10, 9, 8, 7, 6 and 4
		{constants(2) + "s:-r(A,B,C),r(D,E,F),r(G,H,I),n(J). s:-r(A,B,C),r(D,E,F),r(G,H,I). s:-r(A,B,C),r(D,E,F),n(G),n(H). s:-r(A,B,C),r(D,E,F),n(G). s:-r(A,B,C),r(D,E,F). s:-r(A,B,C),n(D).", noVariable},
		{constants(40) + twoVariables + strings.Repeat(oneVariable, 10), noVariable},
		{constants(44) + twoVariables + oneVariable + strings.Repeat(noVariable, 20), noVariable},
	} {
		checkWork(t, c.below, api.OK)
		checkWork(t, c.below+c.more, api.ErrLimit)
		checkWork(t, c.more+c.below, api.ErrLimit)
		checkWork(t, c.below+"y(k0).y(k1).z.", api.OK) // facts are no work
	}
}

func TestOneConstantMore(t *testing.T) {
	checkWork(t, constants(12)+threeVariables, api.OK)
	checkWork(t, constants(13)+threeVariables, api.ErrLimit)
	checkWork(t, constants(44)+twoVariables, api.OK)
	checkWork(t, constants(45)+twoVariables, api.ErrLimit)
	checkWork(t, constants(100)+strings.Repeat("p(X):-n(X).\n", 6), api.OK)
	checkWork(t, constants(1)+strings.Repeat(twelveVariables, 38), api.OK)
	checkWork(t, constants(2)+twelveVariables, api.ErrLimit)
}

func TestConstantsAreCountedWhereverTheyStand(t *testing.T) {
	full := constants(12) + threeVariables
	for _, more := range []string{"p(k12).", "p(k12):-n(k0).", "p(k0):-n(k12).", "p(k0):-!n(k12).", "p(X):-n(X),!v(X,k12).", "v(k0,k1). v(k1,k12)."} {
		checkWork(t, full+more, api.ErrLimit)
		checkWork(t, full+strings.ReplaceAll(more, "k12", "k3"), api.OK)
	}
	// names are no constants, though they may be the same words
	checkWork(t, full+"k12. k13:-k14. k15(X):-k16(X).", api.OK)
}

func TestVariablesAreCountedOnceARule(t *testing.T) {
	const many = 11 // 11 to the power of 3 is 1331, to that of 4 it is 14641
	checkWork(t, constants(many)+"r(X,X,X):-n(X),r(X,X,Y),r(Y,Y,Z),!c(X,Y,Z).", api.OK)
	checkWork(t, constants(many)+"r(X,X,X):-n(X),r(X,X,Y),r(Y,Y,Z),r(X,Y,W).", api.ErrLimit)
	checkWork(t, constants(many)+"p(X):-n(X),n(Y). p(Z):-n(Z),n(W). p(A):-n(A),n(B).", api.OK)
}

func TestABaseWithoutConstants(t *testing.T) {
	checkWork(t, "", api.OK)
	checkWork(t, "t:-!u. v:-!w.", api.OK)
	checkWork(t, strings.Repeat(twelveVariables, 40), api.OK)
	checkWork(t, strings.Repeat(noVariable, 40), api.OK)
}

// TestWorkThatNoIntHolds: 64 to the power of 12 leaves 0 in an int of 64 bits, and 16 times 32 to the power of 12 too.
func TestWorkThatNoIntHolds(t *testing.T) {
	checkWork(t, constants(64)+twelveVariables, api.ErrLimit)
	checkWork(t, constants(32)+strings.Repeat(twelveVariables, 16), api.ErrLimit)
	checkWork(t, constants(96)+twelveVariables+threeVariables, api.ErrLimit)
}

func TestWorkIsNamedLast(t *testing.T) {
	base := load(t, constants(13)+threeVariables+"n(k0).")
	checkAskRefused(t, base, "n(k0)", api.ErrLimit, 0)
	checkAskRefused(t, base, "  n(X)", api.ErrLimit, 0)
	checkAskRefused(t, base, "nowhere", api.ErrLimit, 0)
	checkAskRefused(t, base, " n(k0", api.ErrSyntax, 5)
	checkAskRefused(t, base, " n", api.ErrArity, 1)
	checkAskRefused(t, base, strings.Repeat(" ", api.MaxText)+"n", api.ErrLimit, 0)
	checkLayer(t, base, "r", 0)
}

func TestWorkOfFactsThatComeAndGo(t *testing.T) {
	base := load(t, "r(X,Y,Z):-n(X),n(Y),n(Z). n(a). n(b). n(c). n(d). n(e). n(f). n(g). n(h). n(i). n(j). n(k). n(l).")
	checkAsk(t, base, "r(l,X,a)", "r(l,a,a) r(l,b,a) r(l,c,a) r(l,d,a) r(l,e,a) r(l,f,a) r(l,g,a) r(l,h,a) r(l,i,a) r(l,j,a) r(l,k,a) r(l,l,a)")
	checkAsk(t, base, "r(m,X,Y)", "") // the question's constants are not the base's
	checkAssert(t, base, "other(m)", api.OK, 0)
	checkAskRefused(t, base, "n(a)", api.ErrLimit, 0)
	checkRetract(t, base, "n(a)", api.OK, 0)
	checkAsk(t, base, "r(a,X,Y)", "")
	checkAsk(t, base, "n(l)", "n(l)")
	checkAssert(t, base, "n(m)", api.OK, 0)
	checkAsk(t, base, "r(b,m,m)", "r(b,m,m)")
	checkAssert(t, base, "n(a)", api.OK, 0)
	checkRetract(t, base, "other(m)", api.OK, 0) // n(m) still has the constant
	checkAskRefused(t, base, "n(l)", api.ErrLimit, 0)
	if atoms, errno, _ := load(t, constants(12)+threeVariables+"n(X):-c(X,Y,Z). n(Y):-c(X,Y,Z).").Ask("r(X,Y,Z)"); atoms != nil || errno != api.ErrLimit {
		t.Errorf("P7: three rules of three variables: %d atoms, %d", len(atoms), errno)
	}
}
