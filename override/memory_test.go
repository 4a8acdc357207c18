package override

import (
	"fmt"
	"reflect"
	"slices"
	"testing"

	"arbiter/api"
	"arbiter/hier"
)

// worldFacts is all that a world answers about its classes, as one value that may be compared.
func worldFacts(w *hier.World) []any {
	out := []any{w.Len()}
	for id := range w.Len() {
		c, _ := w.Class(id)
		super, e := w.Super(id)
		chain, _ := w.Chain(id)
		closure, _ := w.Closure(id)
		at, _ := w.ByName(c.Name)
		out = append(out, c, super, e, chain, closure, at)
		for other := range w.Len() {
			out = append(out, w.Extends(id, other), w.SamePackage(id, other))
		}
	}
	return out
}

// answersOf asks all calls at these methods, and writes down each answer with its question.
func answersOf(w *hier.World, ids []api.MethodID) []string {
	var out []string
	for _, a := range ids {
		all, e := All(w, a)
		out = append(out, fmt.Sprint("All ", a, all, e))
		for _, c := range ids {
			plain, e := Plain(w, c, a)
			over, e2 := Overrides(w, c, a)
			first, e3 := First(w, c.Class, a)
			out = append(out, fmt.Sprint("Plain ", c, a, plain, e), fmt.Sprint("Overrides ", c, a, over, e2), fmt.Sprint("First ", c.Class, a, first, e3))
		}
	}
	return out
}

func TestTheWorldStaysAsItWas(t *testing.T) { // R4, R5, R8
	classes := randomClasses(5, 12)
	w, second := worldOf(t, classes[3:]...), newTold(classes)
	before, ids := worldFacts(w), second.methods()
	answers := answersOf(w, ids)
	if !reflect.DeepEqual(worldFacts(w), before) {
		t.Errorf("the questions have turned the world")
	}
	if !slices.Equal(answersOf(w, ids), answers) {
		t.Errorf("the same questions have other answers the second time")
	}
	if id, e := w.Define(class("Later", "Object")); id != len(classes) || e != api.OK {
		t.Errorf("Define = %d, %d", id, e)
	}
}

func TestAllIsNewMemory(t *testing.T) { // R4
	w := worldOf(t, m("A", "Object", api.Public), m("B", "A", api.Public), m("C", "B", api.Public), m("D", "C", api.Private))
	a, want := at(t, w, "A"), []api.MethodID{at(t, w, "A"), at(t, w, "B"), at(t, w, "C")}
	before := worldFacts(w)
	one, _ := All(w, a)
	two, _ := All(w, a)
	whole := one[:cap(one)]
	for place := range whole {
		whole[place] = api.MethodID{Class: -1, Index: -1}
	}
	if !slices.Equal(two, want) {
		t.Errorf("writing over one answer turned another into %v", two)
	}
	_ = append(two[:1], api.MethodID{}, api.MethodID{}, api.MethodID{})
	if three, e := All(w, a); !slices.Equal(three, want) || e != api.OK {
		t.Errorf("writing over answers turned a later one into %v, %d", three, e)
	}
	if !reflect.DeepEqual(worldFacts(w), before) {
		t.Errorf("writing over answers turned the world")
	}
	firstIs(t, w, "D", "A", "C")
	holds(t, w, "C", "A", true, true)
}

// TestLaterClassesTurnNothing: All alone grows, by methods of the class that arrived.
func TestLaterClassesTurnNothing(t *testing.T) { // P0.3
	for seed := range int64(6) {
		classes := randomClasses(1000+seed, 14)
		w := hier.New()
		for next := 3; next < len(classes); next++ {
			second := newTold(classes[:next])
			ids := second.ids
			plain, over, first, all := tablesOf(w, ids)
			if got, e := First(w, next, api.MethodID{}); got != (api.MethodID{}) || e != api.ErrRange {
				t.Errorf("First(%d, ..) = %v, %d ahead of its class", next, got, e)
			}
			refused(t, w, api.ErrRange, api.MethodID{Class: next}, api.MethodID{})
			allRefused(t, w, api.ErrRange, api.MethodID{Class: next})
			define(t, w, classes[next])
			plainNow, overNow, firstNow, allNow := tablesOf(w, ids)
			if !slices.Equal(plainNow, plain) || !slices.Equal(overNow, over) || !slices.Equal(firstNow, first) {
				t.Errorf("seed %d: the arrival of %s turned what was answered", seed, classes[next].Name)
			}
			for place, was := range all {
				now := allNow[place]
				if len(now) < len(was) || !slices.Equal(now[:len(was)], was) || len(now) > len(was)+1 || len(now) > len(was) && now[len(was)].Class != next {
					t.Errorf("seed %d: the arrival of %s turned All(%v) from %v into %v", seed, classes[next].Name, ids[place], was, now)
				}
			}
		}
	}
}

// tablesOf asks all calls between methods that are there.
func tablesOf(w *hier.World, ids []api.MethodID) (plain, over []bool, first []string, all [][]api.MethodID) {
	for _, a := range ids {
		for _, c := range ids {
			isPlain, _ := Plain(w, c, a)
			isOver, _ := Overrides(w, c, a)
			m, e := First(w, c.Class, a)
			plain, over, first = append(plain, isPlain), append(over, isOver), append(first, fmt.Sprint(m, e))
		}
		list, _ := All(w, a)
		all = append(all, list)
	}
	return plain, over, first, all
}

func TestAllGrowsWithLaterClasses(t *testing.T) { // P9.3, P0.3
	w := worldOf(t, m("A", "Object", api.Public))
	allAre(t, w, "A", "A")
	define(t, w, m("B", "A", api.Public))
	allAre(t, w, "A", "A", "B")
	define(t, w, m("C", "A", api.Private))
	allAre(t, w, "A", "A", "B")
	if _, e := w.Define(m("A", "Object", api.Public)); e != api.Linkage {
		t.Fatalf("Define = %d", e)
	}
	allAre(t, w, "A", "A", "B")
	define(t, w, m("D", "B", api.Public))
	allAre(t, w, "A", "A", "B", "D")
	firstIs(t, w, "B", "A", "B")
	firstIs(t, w, "D", "A", "D")
}

func TestWorldsAreTheirOwn(t *testing.T) { // R8: what one world was asked says nothing of another
	wide := worldOf(t, m("p/A", "Object", api.Public), m("q/B", "p/A", api.Public))
	narrow := worldOf(t, m("p/A", "Object", 0), m("q/B", "p/A", api.Public))
	for range 2 {
		holds(t, wide, "q/B", "p/A", true, true)
		holds(t, narrow, "q/B", "p/A", false, false)
		firstIs(t, wide, "q/B", "p/A", "q/B")
		firstIs(t, narrow, "q/B", "p/A", "p/A")
		allAre(t, wide, "p/A", "p/A", "q/B")
		allAre(t, narrow, "p/A", "p/A")
	}
}
