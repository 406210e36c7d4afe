package tabled_test

import (
	"testing"

	"tabled/api"
	"tabled/tabled"
)

const example = "edge(a,b).\nedge(b,c).\nedge(c,a).\nnode(d).\nnode(X):-edge(X,Y).\npath(X,Y):-edge(X,Y).\npath(X,Z):-path(X,Y),edge(Y,Z).\napart(X,Y):-node(X),node(Y),!path(X,Y).\n"

func load(t *testing.T, program string) *tabled.Base {
	t.Helper()
	base, errno, place := tabled.Load(program)
	if base == nil || errno != api.OK || place != 0 {
		t.Fatalf("P3: Load(%.80q): %v, %d, %d", program, base != nil, errno, place)
	}
	return base
}

// loads: what Load is to answer to a text.
type loads struct {
	text  string
	errno api.Errno
	place int
}

func checkLoads(t *testing.T, cases []loads) {
	t.Helper()
	for _, c := range cases {
		base, errno, place := tabled.Load(c.text)
		if errno != c.errno || place != c.place || (base == nil) != (c.errno != api.OK) {
			t.Errorf("P3: Load(%.80q): %v, %d, %d, want %d, %d", c.text, base != nil, errno, place, c.errno, c.place)
		}
	}
}

func checkPrint(t *testing.T, base *tabled.Base, want string) {
	t.Helper()
	if got := base.Print(); got != want {
		t.Errorf("P4: Print() = %q, want %q", got, want)
	}
}

func checkAssert(t *testing.T, base *tabled.Base, fact string, want api.Errno, wantPlace int) {
	t.Helper()
	if errno, place := base.Assert(fact); errno != want || place != wantPlace {
		t.Errorf("P5: Assert(%.60q): %d, %d, want %d, %d", fact, errno, place, want, wantPlace)
	}
}

func checkRetract(t *testing.T, base *tabled.Base, fact string, want api.Errno, wantPlace int) {
	t.Helper()
	if errno, place := base.Retract(fact); errno != want || place != wantPlace {
		t.Errorf("P5: Retract(%.60q): %d, %d, want %d, %d", fact, errno, place, want, wantPlace)
	}
}
