package vtable

import (
	"fmt"
	"reflect"
	"slices"
	"testing"

	"arbiter/api"
	"arbiter/hier"
)

// worldFacts is all that a world answers about its classes, as one value that may be compared.
func worldFacts(w *hier.World) []any {
	out := []any{w.Len()}
	for id := range w.Len() {
		c, _ := w.Class(id)
		super, e := w.Super(id)
		chain, _ := w.Chain(id)
		closure, _ := w.Closure(id)
		at, _ := w.ByName(c.Name)
		out = append(out, c, super, e, chain, closure, at)
		for other := range w.Len() {
			out = append(out, w.Extends(id, other), w.SamePackage(id, other))
		}
	}
	return out
}

// answersOf asks all calls at these numbers and methods, and writes down each answer with its question.
func answersOf(w *hier.World, ids []int, methods []api.MethodID) []string {
	var out []string
	for _, id := range ids {
		table, e := Build(w, id)
		size, e2 := Size(w, id)
		out = append(out, fmt.Sprint("Build ", id, table, e), fmt.Sprint("Size ", id, size, e2))
	}
	for _, m := range methods {
		place, e := SlotOf(w, m)
		out = append(out, fmt.Sprint("SlotOf ", m, place, e))
		for _, id := range ids {
			got, e := Select(w, id, m)
			out = append(out, fmt.Sprint("Select ", id, m, got, e))
		}
	}
	return out
}

func TestTheWorldStaysAsItWas(t *testing.T) { // R4, R5, R8
	classes := randomClasses(5, 14)
	w, second := worldOf(t, classes[3:]...), newTold(classes)
	before := worldFacts(w)
	answers := answersOf(w, second.numbers(), second.methods())
	if !reflect.DeepEqual(worldFacts(w), before) {
		t.Errorf("the questions have turned the world")
	}
	if !slices.Equal(answersOf(w, second.numbers(), second.methods()), answers) {
		t.Errorf("the same questions have other answers the second time")
	}
	if id, e := w.Define(class("Later", "Object")); id != len(classes) || e != api.OK {
		t.Errorf("Define = %d, %d", id, e)
	}
}

// writeOver writes over a list as far as its memory goes, and grows it.
func writeOver(table []api.Slot) {
	odd := api.Slot{Root: api.MethodID{Class: -1, Index: -1}, Method: api.MethodID{Class: -2, Index: -2}}
	whole := table[:cap(table)]
	for place := range whole {
		whole[place] = odd
	}
	_ = append(table[:len(table)/2], odd, odd, odd)
}

func TestTablesAreNewMemory(t *testing.T) { // R4
	classes := list(m("p/A", "Object", 0), class("q/B", "p/A"), m("p/C", "q/B", api.Public), m("q/D", "p/C", 0), class("q/E", "q/D", method("n", api.Public), method("id()I", api.Public)), class("q/F", "q/D", method("o", api.Public)))
	w := worldOf(t, classes...)
	before, second := worldFacts(w), newTold(append(firstClasses(), classes...))
	var kept [][]api.Slot // a second answer for each class, asked ahead of all that is written over
	for id := range w.Len() {
		table, _ := Build(w, id)
		kept = append(kept, table)
	}
	for id := range w.Len() {
		table, _ := Build(w, id)
		writeOver(table)
		for other, was := range kept {
			if !slices.Equal(was, second.tables[other]) {
				t.Errorf("writing over the table of %d turned an answer about %d into %v", id, other, was)
			}
		}
		compare(t, w, second, second.methods())
	}
	for id := range w.Len() {
		writeOver(kept[id])
		for other := id + 1; other < w.Len(); other++ {
			if !slices.Equal(kept[other], second.tables[other]) {
				t.Errorf("writing over one answer of %d turned one of %d into %v", id, other, kept[other])
			}
		}
	}
	if !reflect.DeepEqual(worldFacts(w), before) {
		t.Errorf("writing over answers turned the world")
	}
}

func TestLaterClassesTurnNothing(t *testing.T) { // P0.3
	for seed := range int64(6) {
		second := newTold(randomClasses(1000+seed, 14))
		w := hier.New()
		for next := 3; next < len(second.classes); next++ {
			isNone := func(id int) bool { return id < 0 || id >= next }
			ids := slices.DeleteFunc(second.numbers(), isNone)
			methods := slices.DeleteFunc(second.methods(), func(m api.MethodID) bool { return isNone(m.Class) })
			before := answersOf(w, ids, methods)
			tableRefused(t, w, api.ErrRange, next)
			slotRefused(t, w, api.ErrRange, api.MethodID{Class: next})
			selectRefused(t, w, api.ErrRange, next, api.MethodID{Index: 1})
			define(t, w, second.classes[next])
			if !slices.Equal(answersOf(w, ids, methods), before) {
				t.Errorf("seed %d: the arrival of %s turned what was answered", seed, second.classes[next].Name)
			}
		}
		compare(t, w, second, second.methods())
	}
}

// TestBuiltForGood: what arrives below, beside, or is refused, turns no table that is there.
func TestBuiltForGood(t *testing.T) { // P0.3
	w := worldOf(t, m("p/A", "Object", 0), m("p/B", "p/A", api.Public))
	asked := func() {
		t.Helper()
		built(t, w, "Object", objects)
		built(t, w, "p/A", objects+" p/A=p/A")
		built(t, w, "p/B", objects+" p/A=p/B")
		slotIs(t, w, "p/B", 2)
		selected(t, w, "p/B", "p/A", "p/B")
		selected(t, w, "p/A", "p/A", "p/A")
	}
	asked()
	define(t, w, m("p/C", "p/B", 0))
	asked()
	define(t, w, m("p/D", "p/A", api.Protected))
	asked()
	for _, c := range list(m("p/B", "p/A", 0), m("p/E", "Missing", 0), m("p/E", "Cloneable", 0)) {
		if _, e := w.Define(c); e == api.OK {
			t.Fatalf("Define(%v) took it", c)
		}
		asked()
	}
	built(t, w, "p/C", objects+" p/A=p/C p/C=p/C")
	built(t, w, "p/D", objects+" p/A=p/D")
}

func TestWorldsAreTheirOwn(t *testing.T) { // R8: what one world was asked says nothing of another
	wide := worldOf(t, m("p/A", "Object", api.Public), m("q/B", "p/A", api.Public))
	narrow := worldOf(t, m("p/A", "Object", 0), m("q/B", "p/A", api.Public))
	for range 2 {
		built(t, wide, "q/B", objects+" p/A=q/B")
		built(t, narrow, "q/B", objects+" p/A=p/A q/B=q/B")
		slotIs(t, wide, "q/B", 2)
		slotIs(t, narrow, "q/B", 3)
		selected(t, wide, "q/B", "p/A", "q/B")
		selected(t, narrow, "q/B", "p/A", "p/A")
	}
}
