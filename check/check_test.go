package check

import (
	"testing"

	"tabled/syntax"
)

func read(t *testing.T, text string) []syntax.Placed {
	t.Helper()
	program, place, ok := syntax.ReadProgram(text)
	if !ok {
		t.Fatalf("%q has not the form, at %d", text, place)
	}
	return program
}

func TestFinders(t *testing.T) {
	const none = -1
	for _, c := range []struct {
		text                  string
		arity, unsafe, layers int
	}{
		{"", none, none, none},
		{"p. p(a). p(a,b). p.", 3, none, none},
		{"p:-!p(X).", 4, 6, 3},
		{"p(p):-p(p).", none, none, none},
		{"p(X):-q(X). p(Y):-q(X).", none, 14, none},
		{"p(X,Y):-!q(Y,X),r(X).", none, 4, none},
		{"p(a):-q(X,Y,Z),!r(Z,Y,X).", none, none, none},
		{"p(a):-!q(X),!q(Y),r(Y).", none, 9, none},
		{"p:-q,!r. r:-s. s:-t,u. u:-!v,p.", none, none, 5},
		{"a:-b. b:-a. c:-!a,!d. d:-e.", none, none, none},
		{"a:-!b. b:-c. c:-b. d:-!e,!a,! d.", none, none, 28},
		{"p(X):-q(X),!r(X). r(X):-s(X),!t(X). t(a).", none, none, none},
	} {
		program := read(t, c.text)
		for _, f := range []struct {
			name string
			find func([]syntax.Placed) (int, bool)
			want int
		}{{"Arity", Arity, c.arity}, {"Unsafe", Unsafe, c.unsafe}, {"Layers", Layers, c.layers}} {
			place, found := f.find(program)
			if found != (f.want != none) || found && place != f.want || !found && place != 0 {
				t.Errorf("%s of %q: %d, %v, want %d", f.name, c.text, place, found, f.want)
			}
		}
	}
}

func TestCountsOf(t *testing.T) {
	var clauses []syntax.Clause
	for _, placed := range read(t, "p(a). q:-r(X,Y),!s(X).") {
		clauses = append(clauses, placed.Clause)
	}
	for _, c := range []struct {
		name  string
		count int
		want  bool
	}{{"p", 1, true}, {"p", 0, false}, {"q", 0, true}, {"q", 3, false}, {"r", 2, true}, {"s", 2, false}, {"a", 3, true}, {"z", 2, true}} {
		if got := CountsOf(clauses).Fits(syntax.Atom{Name: c.name, Count: c.count}); got != c.want {
			t.Errorf("%s with %d terms: %v", c.name, c.count, got)
		}
	}
}
