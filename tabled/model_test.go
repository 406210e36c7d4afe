package tabled_test

import (
	"math/rand"
	"regexp"
	"slices"
	"strings"
	"testing"

	"tabled/api"
	"tabled/tabled"
)

// What stands in a text that writer made, and where.
type (
	wroteLiteral struct {
		name     string
		at, mark int
		negative bool
		terms    []string
		places   []int
	}
	wroteClause struct {
		head wroteLiteral
		body []wroteLiteral
	}
)

// writer makes programs that have the form, and notes the place of all it writes.
type writer struct {
	source *rand.Rand
	text   strings.Builder
}

func (w *writer) put(token string) int {
	w.text.WriteString([]string{"", "", "", " ", "\n "}[w.source.Intn(5)])
	place := w.text.Len()
	w.text.WriteString(token)
	return place
}

func (w *writer) pick(words ...string) string { return words[w.source.Intn(len(words))] }

func (w *writer) literal(inBody bool) wroteLiteral {
	var l wroteLiteral
	if inBody && w.source.Intn(4) == 0 {
		l.negative = true
		l.mark = w.put("!")
	}
	l.name = w.pick("p", "q", "r", "s", "t", "u", "v")
	l.at = w.put(l.name)
	count := int(l.name[0]) % 2
	if w.source.Intn(60) == 0 {
		count = w.source.Intn(api.MaxArgs + 1)
	}
	for i := range count {
		l.terms = append(l.terms, w.term(inBody && !l.negative))
		w.put([]string{"(", ","}[min(i, 1)])
		l.places = append(l.places, w.put(l.terms[i]))
	}
	if count > 0 {
		w.put(")")
	}
	return l
}

func (w *writer) term(free bool) string {
	if free || w.source.Intn(6) == 0 {
		return w.pick("X", "Y", "Z")
	}
	return w.pick("a", "b", "p")
}

func (w *writer) program() []wroteClause {
	var program []wroteClause
	for range 1 + w.source.Intn(8) {
		c := wroteClause{head: w.literal(false)}
		for i := range w.source.Intn(api.MaxBody + 1) {
			w.put([]string{":-", ","}[min(i, 1)])
			c.body = append(c.body, w.literal(true))
		}
		w.put(".")
		program = append(program, c)
	}
	return program
}

func (c wroteClause) all() []wroteLiteral { return append([]wroteLiteral{c.head}, c.body...) }

func expectArity(program []wroteClause) int {
	first := map[string]int{}
	for _, c := range program {
		for _, l := range c.all() {
			if count, ok := first[l.name]; ok && count != len(l.terms) {
				return l.at
			}
			first[l.name] = len(l.terms)
		}
	}
	return -1
}

func expectUnsafe(program []wroteClause) int {
	for _, c := range program {
		for k, l := range c.all() {
			if k > 0 && !l.negative {
				continue
			}
			for i, term := range l.terms {
				isBound := func(m wroteLiteral) bool { return !m.negative && slices.Contains(m.terms, term) }
				if term < "a" && !slices.ContainsFunc(c.body, isBound) {
					return l.places[i]
				}
			}
		}
	}
	return -1
}

// dependsOf makes the whole relation 'depends', until it does not grow any more.
func dependsOf(program []wroteClause) map[[2]string]bool {
	depends := map[[2]string]bool{}
	for _, c := range program {
		for _, l := range c.body {
			depends[[2]string{c.head.name, l.name}] = true
		}
	}
	for size := -1; size != len(depends); {
		size = len(depends)
		pairs := [][2]string{}
		for pair := range depends {
			pairs = append(pairs, pair)
		}
		for _, x := range pairs {
			for _, y := range pairs {
				if x[1] == y[0] {
					depends[[2]string{x[0], y[1]}] = true
				}
			}
		}
	}
	return depends
}

func expectLayers(program []wroteClause) int {
	depends := dependsOf(program)
	for _, c := range program {
		for _, l := range c.body {
			if l.negative && (l.name == c.head.name || depends[[2]string{l.name, c.head.name}]) {
				return l.mark
			}
		}
	}
	return -1
}

func expectLoad(program []wroteClause) (api.Errno, int) {
	if place := expectArity(program); place >= 0 {
		return api.ErrArity, place
	}
	if place := expectUnsafe(program); place >= 0 {
		return api.ErrUnsafe, place
	}
	if place := expectLayers(program); place >= 0 {
		return api.ErrLayers, place
	}
	return api.OK, 0
}

func TestLoadAgainstTheDefinitions(t *testing.T) {
	source := rand.New(rand.NewSource(1))
	seen := map[api.Errno]int{}
	for range 20000 {
		w := writer{source: source}
		program := w.program()
		errno, place := expectLoad(program)
		checkLoads(t, []loads{{w.text.String(), errno, place}})
		seen[errno]++
	}
	for _, errno := range []api.Errno{api.OK, api.ErrArity, api.ErrUnsafe, api.ErrLayers} {
		if seen[errno] < 500 {
			t.Errorf("too few programs with answer %d: %v", errno, seen)
		}
	}
}

// model of a base: the lines that Print is to tell.
type model []string

const modelProgram = "p(a).\nq.\np(b):-q.\np(a).\ns(X):-r(X),!q.\n"

func (m model) find(fact string) int { return slices.Index(m, fact+".") }

func (m *model) assert(fact string) api.Errno {
	switch {
	case m.find(fact) >= 0:
		return api.ErrTwice
	case len(*m) >= api.MaxClauses:
		return api.ErrLimit
	}
	*m = append(*m, fact+".")
	return api.OK
}

func (m *model) retract(fact string) api.Errno {
	if m.find(fact) < 0 {
		return api.ErrNone
	}
	for i := m.find(fact); i >= 0; i = m.find(fact) {
		*m = slices.Delete(*m, i, i+1)
	}
	return api.OK
}

// layer of the one name that no rule of modelProgram has.
func (m model) layerOfNew() int {
	if slices.ContainsFunc(m, func(line string) bool { return strings.HasPrefix(line, "new") }) {
		return 0
	}
	return -1
}

func (m model) print() string {
	if len(m) == 0 {
		return ""
	}
	return strings.Join(m, "\n") + "\n"
}

func TestFactsComeAndGo(t *testing.T) {
	source := rand.New(rand.NewSource(2))
	base := load(t, modelProgram)
	m := model(strings.Split(strings.TrimSpace(modelProgram), "\n"))
	seen := map[api.Errno]int{}
	gone := 0
	for round := range 20000 {
		w := writer{source: source}
		fact := w.pick("p", "r", "s", "new") + "(" + w.pick("a", "b", "c", "d", "e", "f", "g", "h", "i", "j", "k", "l") + ")"
		var errno api.Errno
		if source.Intn(20) < []int{16, 4}[round/500%2] { // by turns, so that the base is now full, now nearly empty
			errno = m.assert(fact)
			checkAssert(t, base, fact, errno, 0)
		} else {
			errno = m.retract(fact)
			checkRetract(t, base, fact, errno, 0)
		}
		seen[errno]++
		checkPrint(t, base, m.print())
		checkLayers(t, base, "p 0 q 0 r 0 s 1")
		checkLayer(t, base, "new", m.layerOfNew())
		gone += -m.layerOfNew()
		if t.Failed() {
			return
		}
	}
	for _, errno := range []api.Errno{api.OK, api.ErrTwice, api.ErrNone, api.ErrLimit} {
		if seen[errno] == 0 {
			t.Errorf("no answer %d: %v", errno, seen)
		}
	}
	if gone < 100 {
		t.Errorf("the name new was nowhere %d times only", gone)
	}
}

var betweenParentheses = regexp.MustCompile(`\([^)]*\)`)

// TestAnyText gives every call what comes, and asks that errors stand alone and change nothing (P1).
func TestAnyText(t *testing.T) {
	source := rand.New(rand.NewSource(3))
	pieces := []string{"p", "q(", "a", "X", ",", ")", ":-", ":", "-", "!", ".", " ", "\n", "\x00", "\xff", "\u00e9", "0", "p(a).", "q:-p.", strings.Repeat("x", 13), strings.Repeat(" ", 700)}
	for range 20000 {
		var text strings.Builder
		for range source.Intn(12) {
			text.WriteString(pieces[source.Intn(len(pieces))])
		}
		checkAnyText(t, text.String())
	}
}

// checkWhetherKnown looks for the name in what Print tells, without all that stands between parentheses.
func checkWhetherKnown(t *testing.T, base *tabled.Base, text string) {
	t.Helper()
	names := strings.FieldsFunc(betweenParentheses.ReplaceAllString(base.Print(), ""), func(r rune) bool {
		return strings.ContainsRune(":-!,.\n", r)
	})
	for _, name := range append(names, text) {
		if layer := base.Layer(name); (layer >= 0) != slices.Contains(names, name) || layer < -1 {
			t.Errorf("P6: Layer(%q) = %d in %q", name, layer, base.Print())
		}
	}
}

func checkAnyText(t *testing.T, text string) {
	t.Helper()
	base, errno, place := tabled.Load(text)
	if (base == nil) != (errno != api.OK) || errno == api.OK && place != 0 || place < 0 || place > len(text) {
		t.Errorf("P1: Load(%q): %v, %d, %d", text, base != nil, errno, place)
	}
	if base == nil {
		base = load(t, modelProgram)
	}
	before := base.Print()
	for _, call := range []func(string) (api.Errno, int){base.Assert, base.Retract} {
		errno, place := call(text)
		if errno == api.OK && place != 0 || place < 0 || place > len(text) {
			t.Errorf("P1: with the fact %q: %d, %d", text, errno, place)
		}
		if errno != api.OK && base.Print() != before {
			t.Errorf("P1: the fact %q is refused by %d, and changes the base", text, errno)
		}
		before = base.Print()
	}
	checkWhetherKnown(t, base, text)
	atoms, errno, place := base.Ask(text)
	if errno == api.OK && place != 0 || errno != api.OK && atoms != nil || place < 0 || place > len(text) {
		t.Errorf("P1: with the question %q: %q, %d, %d", text, atoms, errno, place)
	}
	checkAskAll(t, base, turnsOf(base, text, "x", text, "x("+text+")")...)
	if base.Print() != before {
		t.Errorf("P1: asking %q changes the base", text)
	}
}
