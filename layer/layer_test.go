package layer

import (
	"testing"

	"tabled/syntax"
)

func clausesOf(t *testing.T, text string) []syntax.Clause {
	t.Helper()
	program, place, ok := syntax.ReadProgram(text)
	if !ok {
		t.Fatalf("%q has not the form, at %d", text, place)
	}
	return syntax.Clauses(program)
}

func TestOf(t *testing.T) {
	for _, c := range []struct {
		text, name string
		want       int
	}{
		{"", "p", Nowhere},
		{"p.", "p", 0},
		{"p.", "", Nowhere},
		{"p:-!q.", "p", 1},
		{"p:-!q.", "q", 0},
		{"p:-q. q:-r. r:-!s.", "p", 1},
		{"r:-!s. q:-r. p:-q.", "p", 1},
		{"p:-!q,r. r:-!s. s:-!t.", "p", 2},
		{"p:-p,!q.", "p", 1},
	} {
		if got := Of(clausesOf(t, c.text), c.name); got != c.want {
			t.Errorf("Of(%q, %q) = %d, want %d", c.text, c.name, got, c.want)
		}
	}
}
