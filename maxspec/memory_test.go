package maxspec

import (
	"fmt"
	"reflect"
	"slices"
	"testing"

	"arbiter/api"
	"arbiter/hier"
)

// worldFacts is all that a world answers about its classes, as one value that may be compared.
func worldFacts(w *hier.World) []any {
	out := []any{w.Len()}
	for id := range w.Len() {
		c, _ := w.Class(id)
		super, e := w.Super(id)
		chain, _ := w.Chain(id)
		closure, _ := w.Closure(id)
		at, _ := w.ByName(c.Name)
		out = append(out, c, super, e, chain, closure, at)
		for other := range w.Len() {
			out = append(out, w.Extends(id, other), w.SamePackage(id, other))
		}
	}
	return out
}

// answersOf asks all calls about the first classes, this many, and writes down each answer with its question.
func answersOf(w *hier.World, count int) []string {
	var out []string
	for c := range count {
		for _, q := range questions() {
			all, e := Candidates(w, c, q[0], q[1])
			best, e2 := Max(w, c, q[0], q[1])
			one, e3 := One(w, c, q[0], q[1])
			some, e4 := Some(w, c, q[0], q[1])
			out = append(out, fmt.Sprint(c, q, all, e, best, e2, one, e3, some, e4))
		}
	}
	return out
}

func TestTheWorldStaysAsItWas(t *testing.T) { // R4, R5, R8
	classes := randomClasses(5, 25)
	w := worldOf(t, classes[3:]...)
	before := worldFacts(w)
	answers := answersOf(w, w.Len()+2)
	if !reflect.DeepEqual(worldFacts(w), before) {
		t.Errorf("the questions have turned the world")
	}
	if !slices.Equal(answersOf(w, w.Len()+2), answers) {
		t.Errorf("the same questions have other answers the second time")
	}
	if id, e := w.Define(class("Later", "Object")); id != len(classes) || e != api.OK {
		t.Errorf("Define = %d, %d", id, e)
	}
}

func TestListsAreNewMemory(t *testing.T) { // R4
	w := worldOf(t, m("I", normal), of(m("J", abstract), "I"), of(m("K", normal), "I"), m("L", abstract), of(class("C", "Object"), "J", "K", "L"))
	facts, want := worldFacts(w), answersOf(w, w.Len())
	for what, call := range map[string]func(*hier.World, int, string, string) ([]api.MethodID, api.Errno){"Candidates": Candidates, "Max": Max} {
		one, _ := call(w, 7, "m", "()V")
		two, _ := call(w, 7, "m", "()V")
		kept := slices.Clone(two)
		whole := one[:cap(one)]
		for place := range whole {
			whole[place] = api.MethodID{Class: -1, Index: -1}
		}
		if len(kept) < 3 || !slices.Equal(two, kept) {
			t.Errorf("%s: writing over one answer turned another from %v into %v", what, kept, two)
		}
		_ = append(two[:1], api.MethodID{Class: 99}, api.MethodID{Class: 99}, api.MethodID{Class: 99})
		if three, e := call(w, 7, "m", "()V"); !slices.Equal(three, kept) || e != api.OK {
			t.Errorf("%s: writing over answers turned a later one into %v, %d", what, three, e)
		}
	}
	if !reflect.DeepEqual(worldFacts(w), facts) || !slices.Equal(answersOf(w, w.Len()), want) {
		t.Errorf("writing over answers turned the world")
	}
}

func TestLaterClassesTurnNothing(t *testing.T) { // P0.3
	for seed := range int64(10) {
		classes := randomClasses(1000+seed, 25)
		w := hier.New()
		for next := 3; next < len(classes); next++ {
			before := answersOf(w, next)
			refused(t, w, api.ErrRange, next, "m", "()V")
			define(t, w, classes[next])
			if !slices.Equal(answersOf(w, next), before) {
				t.Errorf("seed %d: the arrival of %s turned what was answered", seed, classes[next].Name)
			}
		}
	}
}

func TestAClassThatIsRefusedTurnsNothing(t *testing.T) { // P0.3
	w := worldOf(t, m("I", normal), of(class("C", "Object"), "I"))
	before := answersOf(w, w.Len()+1)
	for _, c := range []api.Class{of(m("I", abstract), "Cloneable"), of(m("J", normal), "I", "None"), of(class("C", "Object"), "Cloneable")} {
		if _, e := w.Define(c); e == api.OK {
			t.Fatalf("Define(%v) took it", c)
		}
	}
	if !slices.Equal(answersOf(w, w.Len()+1), before) {
		t.Errorf("a class that was refused turned what was answered")
	}
	define(t, w, of(m("J", abstract), "I"))
	define(t, w, of(class("D", "C"), "J"))
	holds(t, w, "C", "m", answers{all: "I", max: "I", one: "I"})
	holds(t, w, "D", "m", answers{all: "I J", max: "J", err: api.Abstract})
}

func TestWorldsAreTheirOwn(t *testing.T) { // R8: what one world was asked says nothing of another
	row := worldOf(t, m("I", normal), of(m("J", normal), "I"), of(class("C", "Object"), "I", "J"))
	beside := worldOf(t, m("I", normal), m("J", normal), of(class("C", "Object"), "I", "J"))
	for range 2 {
		holds(t, row, "C", "m", answers{all: "I J", max: "J", one: "J"})
		holds(t, beside, "C", "m", answers{all: "I J", max: "I J", err: api.Incompatible})
	}
}
