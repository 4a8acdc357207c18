package itable

import (
	"fmt"
	"reflect"
	"slices"
	"testing"

	"arbiter/api"
	"arbiter/hier"
)

// worldFacts is all that a world answers about its classes, as one value that may be compared.
func worldFacts(w *hier.World) []any {
	out := []any{w.Len()}
	for id := range w.Len() {
		c, _ := w.Class(id)
		super, e := w.Super(id)
		chain, _ := w.Chain(id)
		closure, _ := w.Closure(id)
		at, _ := w.ByName(c.Name)
		out = append(out, c, super, e, chain, closure, at)
		for other := range w.Len() {
			out = append(out, w.Extends(id, other), w.SamePackage(id, other))
		}
	}
	return out
}

// answersOf asks all calls at these numbers and methods, and writes down each answer with its question.
func answersOf(w *hier.World, ids []int, methods []api.MethodID) []string {
	var out []string
	for _, id := range ids {
		roots, e := Roots(w, id)
		table, e2 := Build(w, id)
		sound, abstract, conflicts, hidden, e3 := Marks(w, id)
		out = append(out, fmt.Sprint("Roots ", id, roots, e), fmt.Sprint("Build ", id, table, e2), fmt.Sprint("Marks ", id, sound, abstract, conflicts, hidden, e3))
		for _, m := range methods {
			got, e := Lookup(w, id, m)
			out = append(out, fmt.Sprint("Lookup ", id, m, got, e))
		}
	}
	return out
}

func TestTheWorldStaysAsItWas(t *testing.T) { // R4, R5, R8
	classes := randomClasses(5, 16)
	w, second := worldOf(t, classes[3:]...), newTold(classes)
	before := worldFacts(w)
	answers := answersOf(w, second.numbers(), second.methods())
	if !reflect.DeepEqual(worldFacts(w), before) {
		t.Errorf("the questions have turned the world")
	}
	if !slices.Equal(answersOf(w, second.numbers(), second.methods()), answers) {
		t.Errorf("the same questions have other answers the second time")
	}
	if id, e := w.Define(class("Later", "Object")); id != len(classes) || e != api.OK {
		t.Errorf("Define = %d, %d", id, e)
	}
}

// writeOver writes over a list as far as its memory goes, and grows it.
func writeOver[T any](list []T, odd T) {
	whole := list[:cap(list)]
	for place := range whole {
		whole[place] = odd
	}
	_ = append(list[:len(list)/2], odd, odd, odd)
}

// kept is what Roots and Build answered of a class.
type kept struct {
	roots []api.MethodID
	table []api.Entry
}

func ask(w *hier.World, id int) kept {
	roots, _ := Roots(w, id)
	table, _ := Build(w, id)
	return kept{roots, table}
}

func (k kept) writeOver() {
	odd := api.MethodID{Class: -1, Index: -2}
	writeOver(k.roots, odd)
	writeOver(k.table, api.Entry{Root: odd, Method: odd, Err: -1, Virtual: odd, VirtualErr: -2})
}

func (k kept) is(table []api.Entry) bool {
	same := func(root api.MethodID, e api.Entry) bool { return root == e.Root }
	return slices.EqualFunc(k.roots, table, same) && slices.Equal(k.table, table)
}

func TestAnswersAreNewMemory(t *testing.T) { // R4
	classes := list(im("I", abstract), of(iface("J", method("m", normal), method("n", normal)), "I"), im("K", normal), of(cm("A", "Object", 0), "I"), of(class("B", "A", method("m", normal)), "J"), of(class("C", "Object"), "J", "K"), class("D", "C"))
	w := worldOf(t, classes...)
	before, second := worldFacts(w), newTold(append(firstClasses(), classes...))
	var all []kept // a second answer for each class, asked ahead of all that is written over
	for id := range w.Len() {
		all = append(all, ask(w, id))
	}
	for id := range w.Len() {
		ask(w, id).writeOver()
		for other, was := range all {
			if !was.is(second.tables[other]) {
				t.Errorf("writing over the answers of %d turned those about %d into %v", id, other, was)
			}
		}
		compare(t, w, second, second.numbers(), second.methods())
	}
	for id := range w.Len() {
		all[id].writeOver()
		for other := id + 1; other < w.Len(); other++ {
			if !all[other].is(second.tables[other]) {
				t.Errorf("writing over answers of %d turned those of %d into %v", id, other, all[other])
			}
		}
	}
	if !reflect.DeepEqual(worldFacts(w), before) {
		t.Errorf("writing over answers turned the world")
	}
}

func TestLaterClassesTurnNothing(t *testing.T) { // P0.3
	for seed := range int64(6) {
		second := newTold(randomClasses(1000+seed, 16))
		w := hier.New()
		for next := 3; next < len(second.classes); next++ {
			isNone := func(id int) bool { return id < 0 || id >= next }
			ids := slices.DeleteFunc(second.numbers(), isNone)
			methods := slices.DeleteFunc(second.methods(), func(m api.MethodID) bool { return isNone(m.Class) })
			before := answersOf(w, ids, methods)
			tableRefused(t, w, api.ErrRange, next)
			lookupRefused(t, w, api.ErrRange, 0, api.MethodID{Class: next})
			lookupRefused(t, w, api.ErrRange, next, api.MethodID{Index: 1})
			define(t, w, second.classes[next])
			if !slices.Equal(answersOf(w, ids, methods), before) {
				t.Errorf("seed %d: the arrival of %s turned what was answered", seed, second.classes[next].Name)
			}
		}
		compare(t, w, second, second.numbers(), second.methods())
	}
}

// TestBuiltForGood: what arrives below, beside, or is refused, turns no table that is there.
func TestBuiltForGood(t *testing.T) { // P0.3
	w := worldOf(t, im("I", abstract), im("J", normal), of(cm("A", "Object", 0), "I"), of(class("B", "Object"), "I"))
	asked := func() {
		t.Helper()
		built(t, w, "Object", objects)
		built(t, w, "A", objects+" I=hidden,A")
		built(t, w, "B", objects+" I=abstract,abstract")
		notFound(t, w, api.ErrNone, "A", "J")
	}
	asked()
	define(t, w, of(cm("C", "A", normal), "J"))
	asked()
	define(t, w, of(im("K", normal), "I", "J"))
	asked()
	define(t, w, of(class("D", "B", method("id()I", normal)), "K"))
	asked()
	for _, c := range list(of(cm("A", "Object", normal), "I"), of(class("E", "B"), "Missing"), of(class("E", "B"), "A")) {
		if _, e := w.Define(c); e == api.OK {
			t.Fatalf("Define(%v) took it", c)
		}
		asked()
	}
	built(t, w, "C", objects+" I=C,C J=C,C")
	built(t, w, "D", "id=D.id,D.id I=K,K J=K,K K=K,K")
}

func TestWorldsAreTheirOwn(t *testing.T) { // R8: what one world was asked says nothing of another
	wide := worldOf(t, im("I", normal), of(cm("A", "Object", normal), "I"))
	narrow := worldOf(t, im("I", normal), of(cm("A", "Object", api.Private), "I"))
	for range 2 {
		built(t, wide, "A", objects+" I=A,A")
		built(t, narrow, "A", objects+" I=hidden,I")
	}
}
