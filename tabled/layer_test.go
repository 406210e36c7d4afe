package tabled_test

import (
	"math/rand"
	"slices"
	"strconv"
	"strings"
	"testing"

	"tabled/api"
	"tabled/tabled"
)

func checkLayer(t *testing.T, base *tabled.Base, name string, want int) {
	t.Helper()
	if got := base.Layer(name); got != want {
		t.Errorf("P6: Layer(%.60q) = %d, want %d, in %q", name, got, want, base.Print())
	}
}

// checkLayers takes names and their layers by turns.
func checkLayers(t *testing.T, base *tabled.Base, text string) {
	t.Helper()
	words := strings.Fields(text)
	for i := 0; i < len(words); i += 2 {
		want, err := strconv.Atoi(words[i+1])
		if err != nil {
			t.Fatal(err)
		}
		checkLayer(t, base, words[i], want)
	}
}

func TestLayerExamples(t *testing.T) {
	checkLayers(t, load(t, example), "path 0 apart 1 x -1 edge 0 node 0")
}

func TestLayers(t *testing.T) {
	for _, c := range []struct{ program, want string }{
		{"", "p -1"},
		{"p. q(a). q(b).", "p 0 q 0"},
		{"p:-q,r. q:-r.", "p 0 q 0 r 0"},
		// names several negative literals up, whatever the order of the clauses
		{"p:-!q. q:-!r. r:-!s.", "p 3 q 2 r 1 s 0"},
		{"r:-!s. q:-!r. p:-!q.", "p 3 q 2 r 1 s 0"},
		{"p:-q. q:-!r. r:-s. s:-!u. u.", "p 2 q 2 r 1 s 1 u 0"},
		// several negative literals of one body stand beside each other, not behind each other
		{"p:-!q,!r,!s,!u.", "p 1 q 0 r 0 s 0 u 0"},
		{"p:-!q,!q.", "p 1 q 0"},
		// the greatest of several ways: of one body, of several rules, first or last
		{"p:-!q,r. r:-!s. s:-!u.", "p 2 q 0 r 2 s 1 u 0"},
		{"p:-r,!q. r:-!s. s:-!u.", "p 2 q 0 r 2 s 1 u 0"},
		{"p:-!s. p:-!q. p:-q. p. s:-!u.", "p 2 s 1 q 0 u 0"},
		{"p:-q. p:-!q. p:-!s. s:-!u.", "p 2 s 1 q 0 u 0"},
		{"p:-q,!q. q:-!r.", "p 2 q 1 r 0"},
		{"p:-!q,!r. q:-s,u. r:-!q,u. s:-!u.", "p 3 q 1 r 2 s 1 u 0"},
		// a fact of the name lowers nothing
		{"p. p:-!q. q.", "p 1 q 0"},
		// ways that come round
		{"p:-p.", "p 0"},
		{"p:-q. q:-r. r:-p.", "p 0 q 0 r 0"},
		{"p:-q. q:-r. r:-p,!s. s:-u. u:-s.", "p 1 q 1 r 1 s 0 u 0"},
		{"r:-p,!s. q:-r. p:-q. s:-!u,s.", "p 2 q 2 r 2 s 1 u 0"},
		{"p:-!q. q:-r. r:-q. x:-p,x.", "p 1 q 0 r 0 x 1"},
		// a name that stands in bodies alone
		{"p:-q,!r.", "q 0 r 0"},
		// what stands above a name does not count
		{"p:-!q. s:-!p. q:-v.", "v 0 q 0 p 1 s 2"},
	} {
		checkLayers(t, load(t, c.program), c.want)
	}
}

func TestLayerOfWhatIsNoName(t *testing.T) {
	base := load(t, "p(a,X1):-q(X1,b),!r(a). q(c,abc).")
	for _, text := range []string{
		"", " ", "\n", "a", "b", "c", "abc", "X1", "X", "P", "Q", "x1", "pp", "0", "p1",
		"p ", " p", "p\n", "p\x00", "\x00p", "p.", "!r", "p(a)", "p(a,X1)", "q(c,abc)", "p,q", "p:-q", ":-", "(", "é", "\xff", "p\xff",
		"abcdefghijklm", strings.Repeat("p", api.MaxText+1), strings.Repeat("q", 1<<20),
	} {
		checkLayer(t, base, text, -1)
	}
	checkLayers(t, base, "p 1 q 0 r 0")
}

func TestAConstantMayBeAName(t *testing.T) {
	base := load(t, "p(q):-!r(p). s(u).")
	checkLayers(t, base, "p 1 r 0 q -1 s 0 u -1")
	checkAssert(t, base, "u", api.OK, 0)
	checkLayers(t, base, "u 0 q -1")
	checkRetract(t, base, "s(u)", api.OK, 0)
	checkLayers(t, base, "u 0 s -1")
}

func TestLayersOfFactsThatComeAndGo(t *testing.T) {
	base := load(t, "p(a). p(a). q:-!r.")
	checkAssert(t, base, "new(a)", api.OK, 0)
	checkAssert(t, base, "new(b)", api.OK, 0)
	checkAssert(t, base, "q", api.OK, 0)
	checkAssert(t, base, "r", api.OK, 0)
	checkLayers(t, base, "p 0 new 0 q 1 r 0")
	checkRetract(t, base, "new(b)", api.OK, 0)
	checkLayer(t, base, "new", 0) // new(a) still knows it
	checkRetract(t, base, "new(a)", api.OK, 0)
	checkRetract(t, base, "p(a)", api.OK, 0)
	checkRetract(t, base, "q", api.OK, 0)
	checkRetract(t, base, "r", api.OK, 0)
	checkLayers(t, base, "p -1 new -1 q 1 r 0") // the rule still knows q and r
	checkAssert(t, base, "new", api.OK, 0)
	checkAssert(t, base, "p(a,b,c)", api.OK, 0)
	checkLayers(t, base, "p 0 new 0")
}

func TestRefusedFactsHaveNoLayer(t *testing.T) {
	base := load(t, "p.")
	checkAssert(t, base, "q(X)", api.ErrGround, 2)
	checkAssert(t, base, "r(", api.ErrSyntax, 2)
	checkRetract(t, base, "s", api.ErrNone, 0)
	base.Layer("u")
	checkLayers(t, base, "p 0 q -1 r -1 s -1 u -1")
	full := load(t, strings.Repeat("p.", api.MaxClauses))
	checkAssert(t, full, "q", api.ErrLimit, 0)
	checkLayer(t, full, "q", -1)
}

// chain makes as many rules as may be, each name with the next one in its body.
func chain(mark string, backward bool) string {
	var rules []string
	for i := range api.MaxClauses {
		rules = append(rules, "n"+strconv.Itoa(i)+":-"+mark+"n"+strconv.Itoa(i+1)+".")
	}
	if backward {
		slices.Reverse(rules)
	}
	return strings.Join(rules, "\n")
}

func TestLayersOfLongChains(t *testing.T) {
	for _, backward := range []bool{false, true} {
		denying, plain := load(t, chain("!", backward)), load(t, chain("", backward))
		for i := range api.MaxClauses + 1 {
			name := "n" + strconv.Itoa(i)
			checkLayer(t, denying, name, api.MaxClauses-i)
			checkLayer(t, plain, name, 0)
		}
	}
}

// expectLayer goes from a name to each negative literal that it comes to, and on from there.
func expectLayer(program []wroteClause, depends map[[2]string]bool, name string) int {
	layer := -1
	for _, c := range program {
		for _, l := range c.all() {
			if l.name == name {
				layer = max(layer, 0)
			}
			if l.negative && (c.head.name == name || depends[[2]string{name, c.head.name}]) {
				layer = max(layer, 1+expectLayer(program, depends, l.name))
			}
		}
	}
	return layer
}

func TestLayersAgainstTheDefinition(t *testing.T) {
	source := rand.New(rand.NewSource(4))
	seen := map[int]int{}
	for range 20000 {
		w := writer{source: source}
		program := w.program()
		base, errno, _ := tabled.Load(w.text.String())
		if errno != api.OK {
			continue
		}
		depends := dependsOf(program)
		for _, name := range []string{"p", "q", "r", "s", "t", "u", "v", "a", "X", "x"} {
			want := expectLayer(program, depends, name)
			checkLayer(t, base, name, want)
			seen[want]++
		}
	}
	for want := -1; want <= 3; want++ {
		if seen[want] < 20 {
			t.Errorf("too few names of layer %d: %v", want, seen)
		}
	}
}
