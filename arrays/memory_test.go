package arrays

import (
	"reflect"
	"slices"
	"testing"

	"arbiter/api"
	"arbiter/hier"
)

// worldFacts is all that a world answers about its classes, as one value that may be compared.
func worldFacts(w *hier.World) []any {
	out := []any{w.Len()}
	for id := range w.Len() {
		c, _ := w.Class(id)
		super, e := w.Super(id)
		chain, _ := w.Chain(id)
		closure, _ := w.Closure(id)
		at, _ := w.ByName(c.Name)
		out = append(out, c, super, e, chain, closure, at)
		for other := range w.Len() {
			out = append(out, w.Extends(id, other), w.SamePackage(id, other))
		}
	}
	return out
}

// answer is one that a call gave, with its question.
type answer struct {
	Call   string
	S, T   api.Type
	Answer any
	Err    api.Errno
}

// answersOf asks all calls about these types, and the numbers below count.
func answersOf(w *hier.World, all []api.Type, count int) []answer {
	var out []answer
	for _, s := range all {
		out = append(out, answer{Call: "Loaded", S: s, Err: Loaded(w, s)})
		holder, e := Holder(w, s)
		out = append(out, answer{Call: "Holder", S: s, Answer: holder, Err: e})
		steps, e := Above(w, s)
		out = append(out, answer{Call: "Above", S: s, Answer: slices.Clone(steps), Err: e})
		for _, other := range all {
			below, e := Sub(w, s, other)
			out = append(out, answer{Call: "Sub", S: s, T: other, Answer: below, Err: e})
		}
	}
	for id := range count {
		of, e := TypeOf(w, id)
		out = append(out, answer{Call: "TypeOf", Answer: of, Err: e})
	}
	return out
}

func TestTheWorldStaysAsItWas(t *testing.T) { // R4, R5
	w := town(t)
	before := worldFacts(w)
	second := newTold(townClasses()...)
	all := append(oddTypes(), second.typesOf(0, 1, 2, 255)...)
	first := answersOf(w, all, w.Len()+2)
	if !reflect.DeepEqual(worldFacts(w), before) {
		t.Errorf("the questions have turned the world")
	}
	if !reflect.DeepEqual(answersOf(w, all, w.Len()+2), first) {
		t.Errorf("the same questions have other answers the second time") // R8
	}
	if id, e := w.Define(class("Later", "A")); id != w.Len()-1 || e != api.OK {
		t.Errorf("Define = %d, %d", id, e)
	}
}

func TestListsAreNewMemory(t *testing.T) { // R4
	w := town(t)
	second := newTold(townClasses()...)
	all := second.typesOf(0, 1, 2, 255)
	before, worldBefore := answersOf(w, all, w.Len()), worldFacts(w)
	for _, s := range all {
		steps, _ := Above(w, s)
		kept := slices.Clone(steps)
		again, _ := Above(w, s)
		again = again[:cap(again)]
		for at := range again {
			again[at] = kind(-7, "junk")
		}
		_ = append(steps, kind(-7, "junk"))
		if !slices.Equal(steps, kept) {
			t.Errorf("Above(%s): what is written into one answer is seen in another", show(s))
		}
	}
	if !reflect.DeepEqual(answersOf(w, all, w.Len()), before) {
		t.Errorf("what is written into answers turns later ones")
	}
	if !reflect.DeepEqual(worldFacts(w), worldBefore) {
		t.Errorf("what is written into answers turns the world")
	}
}

func TestLaterClassesTurnNothing(t *testing.T) { // P0.3
	later := townClasses()
	w := hier.New()
	for at := range later {
		second := newTold(later[:at]...)
		there := second.typesOf(0, 1, 2, 255)
		count := w.Len()
		before := answersOf(w, there, count)
		arriving := []api.Type{kind(0, later[at].Name), kind(1, later[at].Name), kind(255, later[at].Name)}
		for _, s := range arriving {
			if e := Loaded(w, s); e != api.NoClassDef {
				t.Errorf("Loaded(%s) = %d ahead of its class", show(s), e)
			}
			if got, e := Sub(w, s, kind(0, "Object")); got || e != api.NoClassDef {
				t.Errorf("Sub(%s, LObject;) = %v, %d ahead of its class", show(s), got, e)
			}
		}
		if got, e := TypeOf(w, count); got != kind(0, "") || e != api.ErrRange {
			t.Errorf("TypeOf(%d) = %s, %d ahead of its class", count, show(got), e)
		}
		define(t, w, later[at])
		for _, s := range arriving {
			if e := Loaded(w, s); e != api.OK {
				t.Errorf("Loaded(%s) = %d behind the arrival of its class", show(s), e)
			}
			if got, e := Sub(w, s, kind(0, "Object")); !got || e != api.OK {
				t.Errorf("Sub(%s, LObject;) = %v, %d behind the arrival of its class", show(s), got, e)
			}
		}
		if got, e := TypeOf(w, count); got != kind(0, later[at].Name) || e != api.OK {
			t.Errorf("TypeOf(%d) = %s, %d", count, show(got), e)
		}
		if !reflect.DeepEqual(answersOf(w, there, count), before) {
			t.Errorf("the arrival of %s turned what was answered", later[at].Name)
		}
		compare(t, w, newTold(later[:at+1]...), newTold(later[:at+1]...).typesOf(0, 1, 2))
	}
}

func TestRefusedClassesAreNotLoaded(t *testing.T) { // P7.1: a class that did not arrive
	w := town(t)
	if _, e := w.Define(class("q/Shut", "p/Hidden")); e != api.IllegalAccess {
		t.Fatalf("Define = %d", e)
	}
	for _, dims := range []int{0, 1, 255} {
		if e := Loaded(w, kind(dims, "q/Shut")); e != api.NoClassDef {
			t.Errorf("Loaded({%d q/Shut}) = %d", dims, e)
		}
	}
}

func TestWorldsAreTheirOwn(t *testing.T) { // R8: what one world was asked says nothing of another
	full, empty := town(t), hier.New()
	for range 2 {
		if e := Loaded(full, kind(1, "A")); e != api.OK {
			t.Errorf("Loaded([LA;) = %d", e)
		}
		if e := Loaded(empty, kind(1, "A")); e != api.NoClassDef {
			t.Errorf("Loaded([LA;) = %d in a new world", e)
		}
	}
	other := worldOf(t, class("A", "Object"), iface("I"))
	if got, e := Sub(full, kind(1, "A"), kind(1, "I")); !got || e != api.OK {
		t.Errorf("Sub = %v, %d", got, e)
	}
	if got, e := Sub(other, kind(1, "A"), kind(1, "I")); got || e != api.OK {
		t.Errorf("Sub = %v, %d where A does not name I", got, e)
	}
}
