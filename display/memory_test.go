package display

import (
	"fmt"
	"reflect"
	"slices"
	"testing"

	"arbiter/api"
	"arbiter/hier"
)

// worldFacts is all that a world answers about its classes, as one value that may be compared.
func worldFacts(w *hier.World) []any {
	out := []any{w.Len()}
	for id := range w.Len() {
		c, _ := w.Class(id)
		super, e := w.Super(id)
		chain, _ := w.Chain(id)
		closure, _ := w.Closure(id)
		at, _ := w.ByName(c.Name)
		out = append(out, c, super, e, chain, closure, at)
		for other := range w.Len() {
			out = append(out, w.Extends(id, other), w.SamePackage(id, other))
		}
	}
	return out
}

// answersOf asks all calls but Deepest, and writes down each answer with its question.
func answersOf(w *hier.World, ids []int, all []api.Type) []string {
	var out []string
	for _, id := range ids {
		d, e := Build(w, id)
		out = append(out, fmt.Sprint("Build ", id, d, e))
		for _, other := range ids {
			below, reads, e := Test(w, id, other)
			out = append(out, fmt.Sprint("Test ", id, other, below, reads, e))
		}
	}
	for _, s := range all {
		for _, other := range all {
			below, reads, e := TestTypes(w, s, other)
			out = append(out, fmt.Sprint("TestTypes ", s, other, below, reads, e))
		}
	}
	return out
}

func TestTheWorldStaysAsItWas(t *testing.T) { // R4, R5, R8
	classes := randomClasses(5, 20)
	w, second := worldOf(t, classes...), newTold(classes)
	all := append(append(unsound(), absent()...), second.typesOf(0, 1, 255)...)
	before := worldFacts(w)
	answers := answersOf(w, second.numbers(), all)
	deepestIs(t, w, second.deepest())
	if !reflect.DeepEqual(worldFacts(w), before) {
		t.Errorf("the questions have turned the world")
	}
	if !slices.Equal(answersOf(w, second.numbers(), all), answers) {
		t.Errorf("the same questions have other answers the second time")
	}
	deepestIs(t, w, second.deepest())
	if id, e := w.Define(class("Later", "Object")); id != len(second.classes) || e != api.OK {
		t.Errorf("Define = %d, %d", id, e)
	}
}

// writeOver writes over a list as far as its memory goes, and grows it.
func writeOver(list []int) {
	whole := list[:cap(list)]
	for place := range whole {
		whole[place] = -7
	}
	_ = append(list[:len(list)/2], -8, -8, -8)
	_ = append(list, -9)
}

// lists are the three lists of a display.
func lists(d api.Display) [3][]int {
	return [3][]int{d.Primary, d.Deep, d.Secondary}
}

// memoryWorld has chains and closures of several lengths, in some of which lists are empty.
func memoryWorld(t *testing.T) (*hier.World, *told) {
	t.Helper()
	classes := append(list(iface("I"), iface("J", "I"), iface("K", "J")), chainOf(12)...)
	classes[3+1].Ifaces = []string{"J"}
	classes[3+9].Ifaces = []string{"K", "Cloneable"}
	return worldOf(t, classes...), newTold(classes)
}

func TestListsOfOneDisplayShareNothing(t *testing.T) { // R4
	w, second := memoryWorld(t)
	for id := range w.Len() {
		want, _ := second.display(id)
		for place := range 3 {
			d, _ := Build(w, id)
			got, wanted := lists(d), lists(want)
			writeOver(got[place])
			for other := range 3 {
				if other != place && !slices.Equal(got[other], wanted[other]) {
					t.Errorf("writing over list %d of the display of %d turned list %d into %v", place, id, other, got[other])
				}
			}
		}
	}
}

func TestAnswersAreNewMemory(t *testing.T) { // R4
	w, second := memoryWorld(t)
	before := worldFacts(w)
	var kept, wanted []api.Display // a second answer for each class, asked ahead of all that is written over
	for id := range w.Len() {
		d, _ := Build(w, id)
		want, _ := second.display(id)
		kept, wanted = append(kept, d), append(wanted, want)
	}
	for id := range w.Len() {
		d, _ := Build(w, id)
		for _, list := range lists(d) {
			writeOver(list)
		}
		for other, was := range kept {
			if !same(was, wanted[other]) {
				t.Errorf("writing over the display of %d turned an answer about %d into %v", id, other, was)
			}
		}
		compare(t, w, second, second.numbers(), nil)
	}
	for id := range w.Len() {
		for _, list := range lists(kept[id]) {
			writeOver(list)
		}
		for other := id + 1; other < w.Len(); other++ {
			if !same(kept[other], wanted[other]) {
				t.Errorf("writing over one answer of %d turned one of %d into %v", id, other, kept[other])
			}
		}
	}
	if !reflect.DeepEqual(worldFacts(w), before) {
		t.Errorf("writing over answers turned the world")
	}
	compare(t, w, second, second.numbers(), second.typesOf(0, 1))
}

func TestLaterClassesTurnNothing(t *testing.T) { // P0.3
	for seed := range int64(5) {
		classes := randomClasses(1000+seed, 18)
		w := hier.New()
		for at, c := range classes {
			there, id := newTold(classes[:at]), w.Len()
			isNone := func(id int) bool { return there.isNone(id) }
			ids := slices.DeleteFunc(there.numbers(), isNone)
			before := answersOf(w, ids, there.typesOf(0, 1, 2))
			buildRefused(t, w, api.ErrRange, id)
			testRefused(t, w, api.ErrRange, id, 0)
			testRefused(t, w, api.ErrRange, 0, id)
			typesRefused(t, w, api.NoClassDef, kind(0, c.Name), kind(0, "Object"))
			typesRefused(t, w, api.NoClassDef, kind(1, "Object"), kind(1, c.Name))
			define(t, w, c)
			if !slices.Equal(answersOf(w, ids, there.typesOf(0, 1, 2)), before) {
				t.Errorf("seed %d: the arrival of %s turned what was answered", seed, c.Name)
			}
			typesTested(t, w, kind(0, c.Name), kind(0, "Object"), true, 1)
		}
		second := newTold(classes)
		compare(t, w, second, second.numbers(), second.typesOf(0, 1))
	}
}

// TestKeptDisplaysStay: a display that was answered is no view of the world, so nothing that arrives grows into it.
func TestKeptDisplaysStay(t *testing.T) { // P0.3, R4
	classes := chainOf(12)
	w := hier.New()
	var kept []api.Display
	for _, c := range append(classes, iface("I"), iface("J", "I"), class("A", "C12", "J")) {
		d, e := Build(w, define(t, w, c))
		if e != api.OK {
			t.Fatalf("Build(%s): %d", c.Name, e)
		}
		kept = append(kept, d)
	}
	for at, was := range kept {
		if got, e := Build(w, at+3); !same(got, was) || e != api.OK {
			t.Errorf("Build(%d) = %v, %d, but at its arrival %v", at+3, got, e, was)
		}
	}
}

func TestWorldsAreTheirOwn(t *testing.T) { // R8: what one world was asked says nothing of another
	wide := worldOf(t, iface("I"), class("A", "Object", "I"), class("B", "A"))
	narrow := worldOf(t, iface("I"), class("A", "Object"), class("B", "Object"))
	for range 2 {
		built(t, wide, "B", "Object A B", "", "I")
		built(t, narrow, "B", "Object B", "", "")
		tested(t, wide, "B", "A", true, 1)
		tested(t, narrow, "B", "A", false, 1)
		tested(t, wide, "B", "I", true, 2)
		tested(t, narrow, "B", "I", false, 1)
		deepestIs(t, wide, 2)
		deepestIs(t, narrow, 1)
	}
}
