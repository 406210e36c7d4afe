package tabled_test

import (
	"math/rand"
	"slices"
	"strings"
	"testing"

	"tabled/api"
	"tabled/tabled"
)

// drawer makes programs that are safe and layered. A name's place, by twos, is the layer that it may reach at most.
type drawer struct {
	source    *rand.Rand
	constants []string
}

var drawnNames = []struct {
	name  string
	count int
}{{"e", 2}, {"n", 1}, {"p", 2}, {"z", 0}, {"r", 3}, {"q", 1}, {"s", 1}, {"v", 2}}

func (d *drawer) pick(words []string) string { return words[d.source.Intn(len(words))] }

// literal of the name at a place. Its variables are among those that are named.
func (d *drawer) literal(place int, variables []string) wroteLiteral {
	l := wroteLiteral{name: drawnNames[place].name}
	for range drawnNames[place].count {
		if len(variables) > 0 && d.source.Intn(6) > 0 {
			l.terms = append(l.terms, d.pick(variables))
		} else {
			l.terms = append(l.terms, d.pick(d.constants))
		}
	}
	return l
}

func (d *drawer) rule() wroteClause {
	place := d.source.Intn(len(drawnNames))
	layer := place / 2
	var c wroteClause
	for range 1 + d.source.Intn(3) {
		c.body = append(c.body, d.literal(d.source.Intn(2*layer+2), []string{"X", "Y", "Z", "W"}))
	}
	c.head = d.literal(place, variablesOf(c))
	if layer > 0 && d.source.Intn(3) > 0 {
		l := d.literal(2*layer-1-d.source.Intn(2), variablesOf(c))
		l.negative = true
		c.body = slices.Insert(c.body, d.source.Intn(len(c.body)+1), l)
	}
	return c
}

func (d *drawer) program() []wroteClause {
	d.constants = []string{"a", "a1", "b", "c10", "c9", "e"}[:1+d.source.Intn(6)]
	var program []wroteClause
	for range d.source.Intn(16) {
		program = append(program, d.rule())
	}
	for range d.source.Intn(12) {
		program = append(program, d.fact())
	}
	d.source.Shuffle(len(program), func(i, k int) { program[i], program[k] = program[k], program[i] })
	return program
}

// fact is of the lowest names mostly: else there is little to follow.
func (d *drawer) fact() wroteClause {
	return wroteClause{head: d.literal(d.source.Intn([]int{2, 2, 2, len(drawnNames)}[d.source.Intn(4)]), nil)}
}

func (l wroteLiteral) print() string {
	mark := map[bool]string{true: "!"}[l.negative]
	if len(l.terms) == 0 {
		return mark + l.name
	}
	return mark + l.name + "(" + strings.Join(l.terms, ",") + ")"
}

func (c wroteClause) print() string {
	var body []string
	for _, l := range c.body {
		body = append(body, l.print())
	}
	if len(body) == 0 {
		return c.head.print() + "."
	}
	return c.head.print() + ":-" + strings.Join(body, ",") + "."
}

func printAll(program []wroteClause) string {
	var out strings.Builder
	for _, c := range program {
		out.WriteString(c.print() + "\n")
	}
	return out.String()
}

// termsOf tells the different terms on one side of "a".
func termsOf(c wroteClause, variables bool) []string {
	var terms []string
	for _, l := range c.all() {
		for _, term := range l.terms {
			if (term < "a") == variables && !slices.Contains(terms, term) {
				terms = append(terms, term)
			}
		}
	}
	return terms
}

func variablesOf(c wroteClause) []string { return termsOf(c, true) }

func constantsOf(program []wroteClause) []string {
	var constants []string
	for _, c := range program {
		constants = append(constants, termsOf(c, false)...)
	}
	slices.Sort(constants)
	return slices.Compact(constants)
}

func expectWork(program []wroteClause) int {
	count := max(1, len(constantsOf(program)))
	sum := 0
	for _, c := range program {
		if len(c.body) == 0 {
			continue
		}
		power := 1
		for range variablesOf(c) {
			power *= count
		}
		sum += power
	}
	return sum
}

func (l wroteLiteral) put(values map[string]string) wroteLiteral {
	put := wroteLiteral{name: l.name}
	for _, term := range l.terms {
		if value, ok := values[term]; ok {
			term = value
		}
		put.terms = append(put.terms, term)
	}
	return put
}

// eachWay gives each of the variables each of the constants.
func eachWay(variables, constants []string, values map[string]string, visit func(map[string]string)) {
	if len(variables) == 0 {
		visit(values)
		return
	}
	for _, constant := range constants {
		values[variables[0]] = constant
		eachWay(variables[1:], constants, values, visit)
	}
}

// expectHolds goes by the definition: layer by layer, with all constants for all variables.
func expectHolds(program []wroteClause) map[string]wroteLiteral {
	holds := map[string]wroteLiteral{}
	depends, constants := dependsOf(program), constantsOf(program)
	has := func(l wroteLiteral, values map[string]string) bool {
		_, found := holds[l.put(values).print()]
		return found
	}
	for layer := range len(drawnNames) {
		for size := -1; size != len(holds); {
			size = len(holds)
			for _, c := range program {
				if expectLayer(program, depends, c.head.name) != layer {
					continue
				}
				eachWay(variablesOf(c), constants, map[string]string{}, func(values map[string]string) {
					if !slices.ContainsFunc(c.body, func(l wroteLiteral) bool { return has(l, values) == l.negative }) {
						head := c.head.put(values)
						holds[head.print()] = head
					}
				})
			}
		}
	}
	return holds
}

// becomes tells whether the question becomes this atom.
func (l wroteLiteral) becomes(atom wroteLiteral) bool {
	if l.name != atom.name || len(l.terms) != len(atom.terms) {
		return false
	}
	values := map[string]string{}
	for i, term := range l.terms {
		if term < "a" && values[term] == "" {
			values[term] = atom.terms[i]
		}
	}
	return slices.Equal(l.put(values).terms, atom.terms)
}

func expectAsk(holds map[string]wroteLiteral, question wroteLiteral) string {
	var answers []string
	for printed, atom := range holds {
		if question.becomes(atom) {
			answers = append(answers, printed)
		}
	}
	slices.Sort(answers)
	return strings.Join(answers, " ")
}

// questions: all that is to know, and some with constants (one of which stands nowhere) and variables twice.
func (d *drawer) questions() []wroteLiteral {
	var questions []wroteLiteral
	for _, drawn := range drawnNames {
		questions = append(questions, wroteLiteral{name: drawn.name, terms: []string{"X", "Y", "Z"}[:drawn.count]})
	}
	constants := d.constants
	d.constants = append([]string{"zz"}, constants...)
	for range 12 {
		questions = append(questions, d.literal(d.source.Intn(len(drawnNames)), []string{"X", "Y", "X"}[:d.source.Intn(4)]))
	}
	d.constants = constants
	return questions
}

// compareAsk asks one by one and all at one time. It tells how many answers there were, and how many questions were refused.
func (d *drawer) compareAsk(t *testing.T, base *tabled.Base, program []wroteClause) (answers, refused int) {
	t.Helper()
	isTooMuch := expectWork(program) > api.MaxWork
	holds := map[string]wroteLiteral{}
	if !isTooMuch {
		holds = expectHolds(program)
	}
	var turns []string
	for _, question := range d.questions() {
		text := strings.ReplaceAll(question.print(), ",", d.pick([]string{",", " , ", "\n,"}))
		if isTooMuch {
			checkAskRefused(t, base, text, api.ErrLimit, 0)
			refused++
			turns = append(turns, text, "error 1 at 0")
			continue
		}
		want := expectAsk(holds, question)
		checkAsk(t, base, text, want)
		turns = append(turns, text, want)
	}
	checkAskAll(t, base, turns...)
	return len(holds), refused
}

// change asserts or retracts a fact, as it comes, in the base and in the program.
func (d *drawer) change(t *testing.T, base *tabled.Base, program []wroteClause) []wroteClause {
	t.Helper()
	isSame := func(c wroteClause) func(wroteClause) bool {
		return func(other wroteClause) bool { return other.print() == c.print() }
	}
	if place := d.source.Intn(len(program) + 3); place < len(program) && len(program[place].body) == 0 {
		gone := program[place]
		checkRetract(t, base, gone.head.print(), api.OK, 0)
		return slices.DeleteFunc(slices.Clone(program), isSame(gone))
	}
	fact := d.fact()
	if slices.ContainsFunc(program, isSame(fact)) {
		return program
	}
	checkAssert(t, base, fact.head.print(), api.OK, 0)
	return append(slices.Clone(program), fact)
}

func TestAskAgainstTheDefinition(t *testing.T) {
	d := drawer{source: rand.New(rand.NewSource(5))}
	answers, refused, layers := 0, 0, map[int]int{}
	for range 400 {
		program := d.program()
		base := load(t, printAll(program))
		depends := dependsOf(program)
		for _, drawn := range drawnNames {
			layers[expectLayer(program, depends, drawn.name)]++
		}
		for range 3 {
			found, denied := d.compareAsk(t, base, program)
			answers, refused = answers+found, refused+denied
			program = d.change(t, base, program)
		}
		if t.Failed() {
			return
		}
	}
	if answers < 5000 || refused < 50 || layers[2] < 50 || layers[3] < 10 {
		t.Errorf("too little was asked: %d answers, %d refused, names by layers %v", answers, refused, layers)
	}
}
