package syntax

import "testing"

func read(t *testing.T, text string) []Clause {
	t.Helper()
	program, place, ok := ReadProgram(text)
	if !ok {
		t.Fatalf("ReadProgram(%q): a fault at %d", text, place)
	}
	return Clauses(program)
}

func TestPrintProgram(t *testing.T) {
	for _, c := range []struct{ text, want string }{
		{"", ""},
		{" \n", ""},
		{"p .", "p.\n"},
		{"p ( a ) .", "p(a).\n"},
		{" p(a , X,\nb):- ! q , r ( X ) .s:-p.", "p(a,X,b):-!q,r(X).\ns:-p.\n"},
		{"p:-a,!b,c,!d.", "p:-a,!b,c,!d.\n"},
	} {
		if got := PrintProgram(read(t, c.text)); got != c.want {
			t.Errorf("%q is printed %q, want %q", c.text, got, c.want)
		}
	}
}

func TestPrintAtom(t *testing.T) {
	for _, c := range []struct{ text, want string }{{"p", "p"}, {" p ( a )", "p(a)"}, {"p(X, b,\nX)", "p(X,b,X)"}} {
		atom, _, _, ok := ReadQuestion(c.text)
		if got := PrintAtom(atom); got != c.want || !ok {
			t.Errorf("%q is printed %q, want %q", c.text, got, c.want)
		}
	}
}

func TestFactsAndRules(t *testing.T) {
	for _, c := range []struct {
		text   string
		isFact bool
	}{{"p.", true}, {"p(a).", true}, {"p(a,b1,c).", true}, {"p(X).", false}, {"p(a,b,Z).", false}, {"p:-q.", false}, {"p(a):-!q.", false}} {
		if got := read(t, c.text)[0].IsFact(); got != c.isFact {
			t.Errorf("IsFact of %q = %v", c.text, got)
		}
	}
}

func TestFirstVariable(t *testing.T) {
	for _, c := range []struct {
		text string
		want int
	}{{"p.", -1}, {"p(a,b,c).", -1}, {"p(X,b,Y).", 0}, {"p(a,X,Y).", 1}, {"p(aa,b,A).", 2}} {
		if got := read(t, c.text)[0].Head.FirstVariable(); got != c.want {
			t.Errorf("FirstVariable of %q = %d, want %d", c.text, got, c.want)
		}
	}
}

func TestAtomsComeInTheOrderOfTheText(t *testing.T) {
	names := ""
	for _, atom := range read(t, "p:-q,!r,p.")[0].Atoms() {
		names += atom.Name
	}
	if names != "pqrp" {
		t.Errorf("Atoms: %q", names)
	}
}
