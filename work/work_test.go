package work

import (
	"testing"

	"tabled/syntax"
)

// leastLimit tells the work: the least limit that it is not above.
func leastLimit(clauses []syntax.Clause) int {
	limit := 0
	for IsAbove(clauses, limit) {
		limit++
	}
	return limit
}

func TestWork(t *testing.T) {
	for _, c := range []struct {
		text string
		want int
	}{
		{"", 0},
		{"p. q(a). r(a,b,c).", 0},
		{"p:-q.", 1},
		{"p:-q. p:-!q.", 2},
		{"p(X):-q(X).", 1},
		{"p(X):-q(X,Y,Z).", 1},
		{"p(X):-q(X). q(X):-r(X,Y). r(X,Y):-s(X,Y,Z).", 3}, // as of one constant, if there is none
		{"p(X):-q(X). q(a).", 1},
		{"p(X):-q(X). q(a). q(b). q(b). a(a).", 2},
		{"p(X):-q(X,b). q(X,Y):-r(X,Y),!r(Y,c). r(a,a).", 3 + 9},
		{"p(X,X):-q(X,X). r(a,b,c).", 3},
		{"p:-q(X,Y),q(Y,X),q(Z,Z). r(a,b,c).", 27},
		{"p(X):-q(X). s(X):-p(X). t:-s(a). t:-s(b).", 2 + 2 + 1 + 1},
		{"edge(a,b). edge(b,c). edge(c,a). node(d). node(X):-edge(X,Y). path(X,Y):-edge(X,Y). path(X,Z):-path(X,Y),edge(Y,Z). apart(X,Y):-node(X),node(Y),!path(X,Y).", 16 + 16 + 64 + 16},
	} {
		program, place, ok := syntax.ReadProgram(c.text)
		if !ok {
			t.Fatalf("%q has not the form, at %d", c.text, place)
		}
		if got := leastLimit(syntax.Clauses(program)); got != c.want {
			t.Errorf("the work of %q is %d, want %d", c.text, got, c.want)
		}
	}
}

func TestPowerStopsInTime(t *testing.T) {
	for _, c := range []struct{ base, exponent, limit int }{{64, 12, 2000}, {2, 1 << 20, 2000}, {1000, 12, 2000}, {2001, 1, 2000}} {
		if got := power(c.base, c.exponent, c.limit); got <= c.limit || got > c.limit*c.base {
			t.Errorf("%d to the power of %d, above %d: %d", c.base, c.exponent, c.limit, got)
		}
	}
	for _, c := range []struct{ base, exponent, want int }{{1, 12, 1}, {12, 0, 1}, {12, 3, 1728}, {2, 10, 1024}, {2000, 1, 2000}} {
		if got := power(c.base, c.exponent, 2000); got != c.want {
			t.Errorf("%d to the power of %d: %d, want %d", c.base, c.exponent, got, c.want)
		}
	}
}
