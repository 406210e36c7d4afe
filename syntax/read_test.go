package syntax

import (
	"math/rand"
	"reflect"
	"regexp"
	"strings"
	"testing"

	"tabled/api"
)

// The grammar once more, as patterns: what the reader is held against. A pattern can't count forty clauses beside all
// else, so the full stops are counted apart.
const (
	blanks  = `[ \n]*`
	small   = `[a-z][a-z0-9]{0,11}`
	term    = blanks + `(` + small + `|[A-Z][A-Za-z0-9]{0,11})` + blanks
	atom    = blanks + small + blanks + `(\(` + term + `(,` + term + `){0,2}\))?` + blanks
	literal = blanks + `!?` + atom
	clause  = atom + `(:-` + literal + `(,` + literal + `){0,3})?\.` + blanks
)

var (
	programForm  = regexp.MustCompile(`\A` + blanks + `(` + clause + `)*\z`)
	questionForm = regexp.MustCompile(`\A` + atom + `\z`)
)

// endings: whatever begins a program or a question can be ended by one of these.
var endings = []string{"", ".", "p.", "p).", ").", "-p.", "p", "p)", ")"}

func isProgram(text string) bool {
	return strings.Count(text, ".") <= api.MaxClauses && programForm.MatchString(text)
}

// fault tells the place by the document's own words: the first byte with which no right text begins.
func fault(text string, isRight func(string) bool) (int, bool) {
	if isRight(text) {
		return 0, true
	}
	for i := range len(text) {
		begins := false
		for _, ending := range endings {
			begins = begins || isRight(text[:i+1]+ending)
		}
		if !begins {
			return i, false
		}
	}
	return len(text), false
}

func compare(t *testing.T, text string) {
	t.Helper()
	wantPlace, want := fault(text, isProgram)
	if _, place, ok := ReadProgram(text); place != wantPlace || ok != want {
		t.Errorf("ReadProgram(%q): %d, %v, want %d, %v", text, place, ok, wantPlace, want)
	}
	wantPlace, want = fault(text, questionForm.MatchString)
	if _, _, place, ok := ReadQuestion(text); place != wantPlace || ok != want {
		t.Errorf("ReadQuestion(%q): %d, %v, want %d, %v", text, place, ok, wantPlace, want)
	}
}

func TestAllShortTexts(t *testing.T) {
	const letters = "pA1(),.:-! "
	var grow func(text string, left int)
	grow = func(text string, left int) {
		compare(t, text)
		if left == 0 {
			return
		}
		for i := range len(letters) {
			grow(text+letters[i:i+1], left-1)
		}
	}
	grow("", 4)
}

func TestAllTextsOfAFewPieces(t *testing.T) {
	pieces := []string{"p", "p(a,B,c", "):-", "!q", ",r(X)", ".\n", "Abcdefghijkl", "abcdefghijkl", " "}
	var grow func(text string, left int)
	grow = func(text string, left int) {
		compare(t, text)
		if left == 0 {
			return
		}
		for _, piece := range pieces {
			grow(text+piece, left-1)
		}
	}
	grow("", 3)
}

// TestSpoiltPrograms changes right programs by a byte here and there.
func TestSpoiltPrograms(t *testing.T) {
	const bytes = "aZ09(),.:-! \n\t\r\x00_\x80\xff\x0b\x0c\x1f!`{@[/"
	texts := []string{
		" p ( a , X ) :- q ( X ) , ! r ( X , b1 ) , s . \n q(a). q(a).s:-!t.t. ",
		"abcdefghijkl(Abcdefghijkl,abcdefghijkl,A23456789012):-a,b,!c(X,Y,Z),d.p.",
		strings.Repeat("p.", 39) + "q:-a,b , c,!d\n.\n",
	}
	source := rand.New(rand.NewSource(1))
	for range 4000 {
		text := texts[source.Intn(len(texts))]
		for range 1 + source.Intn(2) {
			i := source.Intn(len(text))
			piece := string(bytes[source.Intn(len(bytes))])
			switch source.Intn(3) {
			case 0:
				text = text[:i] + piece + text[i:]
			case 1:
				text = text[:i] + text[i+1:]
			default:
				text = text[:i] + piece + text[i+1:]
			}
		}
		compare(t, text)
	}
}

func TestEveryByteAfterEveryBeginning(t *testing.T) {
	beginnings := []string{"", "p", "p ", "p(", "p(a", "p(A", "p(a ", "p(a,", "p(a,b,c", "p(a)", "p:", "p:-", "p:-!", "p:-q", "p:-q,", "p:-a,b,c,d", "p.", "abcdefghijkl", "p(abcdefghijkl", "p(Abcdefghijkl", strings.Repeat("p.", 39), strings.Repeat("p.", 40)}
	for _, beginning := range beginnings {
		for c := range 256 {
			compare(t, beginning+string([]byte{byte(c)}))
		}
	}
}

func TestReadProgramTellsClausesAndSpots(t *testing.T) {
	got, _, ok := ReadProgram(" p(a, X):- q(X),\n! r . s.")
	want := []Placed{
		{
			Clause: Clause{
				Head: Atom{Name: "p", Count: 2, Terms: [3]string{"a", "X"}},
				Body: []Literal{
					{Atom: Atom{Name: "q", Count: 1, Terms: [3]string{"X"}}},
					{Atom: Atom{Name: "r"}, Negative: true},
				},
			},
			Spots: []Spot{
				{Name: 1, Terms: [3]int{3, 6}},
				{Name: 11, Terms: [3]int{13}},
				{Mark: 17, Name: 19},
			},
		},
		{Clause: Clause{Head: Atom{Name: "s"}}, Spots: []Spot{{Name: 23}}},
	}
	if !ok || !reflect.DeepEqual(got, want) {
		t.Errorf("ReadProgram: %v, %+v, want %+v", ok, got, want)
	}
}

func TestReadQuestionTellsAtomAndSpot(t *testing.T) {
	atom, spot, place, ok := ReadQuestion("\n q1 ( Xy , b , X ) ")
	wantAtom := Atom{Name: "q1", Count: 3, Terms: [3]string{"Xy", "b", "X"}}
	wantSpot := Spot{Name: 2, Terms: [3]int{7, 12, 16}}
	if !ok || place != 0 || atom != wantAtom || spot != wantSpot {
		t.Errorf("ReadQuestion: %+v, %+v, %d, %v", atom, spot, place, ok)
	}
}
