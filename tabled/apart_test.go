package tabled_test

import (
	"sync"
	"testing"

	"tabled/api"
	"tabled/tabled"
)

func TestBasesKnowNothingOfOneAnother(t *testing.T) {
	one, two := load(t, example), load(t, example)
	checkRetract(t, one, "edge(a,b)", api.OK, 0)
	checkAssert(t, one, "name", api.OK, 0)
	checkPrint(t, two, example)
	checkLayer(t, one, "name", 0)
	checkLayer(t, two, "name", -1)
	checkAsk(t, one, "name", "name")
	checkAsk(t, two, "name", "")
	checkAsk(t, one, "edge(a,X)", "")
	checkAsk(t, two, "edge(a,X)", "edge(a,b)")
	checkAssert(t, two, "name(a)", api.OK, 0)
	checkRetract(t, two, "edge(a,b)", api.OK, 0)
	checkAssert(t, one, "edge(a,b)", api.OK, 0)
	checkRetract(t, two, "edge(a,b)", api.ErrNone, 0)
	checkPrint(t, load(t, example), example)
}

func TestTheSameCallsAnswerTheSame(t *testing.T) {
	for range 20 {
		checkLoads(t, []loads{
			{"a:-!b. b:-!c. c:-!a. d:-!d.", api.ErrLayers, 3},
			{"p(A,B,C):-!q(C,B,A).", api.ErrUnsafe, 2},
			{"p. q. r. r(a). q(a). p(a).", api.ErrArity, 9},
		})
		base := load(t, example)
		checkAssert(t, base, "node(e)", api.OK, 0)
		checkPrint(t, base, example+"node(e).\n")
		checkLayers(t, base, "apart 1 path 0 e -1 apart 1 path 0 e -1")
		checkPrint(t, base, example+"node(e).\n")
	}
}

func TestARefusalChangesNothing(t *testing.T) {
	base := load(t, example)
	checkAssert(t, base, "edge(a,X)", api.ErrGround, 7)
	checkAssert(t, base, "edge(a,b)", api.ErrTwice, 0)
	checkRetract(t, base, "edge(a,c)", api.ErrNone, 0)
	checkRetract(t, base, "path(a,b)", api.ErrNone, 0)
	checkPrint(t, base, example)
	tabled.Load("p:-!p.")
	checkPrint(t, base, example)
}

func TestAPrintedTextStaysAsItWas(t *testing.T) {
	base := load(t, "p(a). p(b).")
	before := base.Print()
	checkRetract(t, base, "p(a)", api.OK, 0)
	checkAssert(t, base, "p(c)", api.OK, 0)
	if before != "p(a).\np(b).\n" {
		t.Errorf("P2: what Print told before is now %q", before)
	}
	checkPrint(t, base, "p(b).\np(c).\n")
	checkPrint(t, load(t, before), before)
}

func TestManyBasesAtOneTime(t *testing.T) {
	var group sync.WaitGroup
	for range 8 {
		group.Go(func() {
			for range 50 {
				base, _, _ := tabled.Load(example)
				base.Retract("edge(a,b)")
				base.Assert("edge(a,b)")
				if len(base.Print()) != len(example) || base.Layer("apart") != 1 {
					t.Error("P2: bases that are made at one time get in each other's way")
				}
			}
		})
	}
	group.Wait()
}
