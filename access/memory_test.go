package access

import (
	"reflect"
	"testing"

	"arbiter/api"
	"arbiter/hier"
)

// worldFacts is all that a world answers about its classes, as one value that may be compared.
func worldFacts(w *hier.World) []any {
	out := []any{w.Len()}
	for id := range w.Len() {
		c, _ := w.Class(id)
		super, e := w.Super(id)
		chain, _ := w.Chain(id)
		closure, _ := w.Closure(id)
		at, _ := w.ByName(c.Name)
		out = append(out, c, super, e, chain, closure, at)
		for other := range w.Len() {
			out = append(out, w.Extends(id, other), w.SamePackage(id, other))
		}
	}
	return out
}

// answer is one that a call gave, with its question.
type answer struct {
	Call     string
	D, Other int
	M        api.MethodID
	T        api.Type
	Open     bool
	Loader   int
	Name     string
	Err      api.Errno
}

// answersOf asks all calls at these numbers, methods and types.
func answersOf(w *hier.World, ids []int, methods []api.MethodID, all []api.Type) []answer {
	var out []answer
	for _, d := range ids {
		loader, name, e := Package(w, d)
		out = append(out, answer{Call: "Package", D: d, Loader: loader, Name: name, Err: e})
		for _, of := range all {
			open, e := TypeOpen(w, d, of)
			out = append(out, answer{Call: "TypeOpen", D: d, T: of, Open: open, Err: e})
		}
		for _, other := range ids {
			open, e := ClassOpen(w, d, other)
			out = append(out, answer{Call: "ClassOpen", D: d, Other: other, Open: open, Err: e})
			for _, m := range methods {
				open, e := MethodOpen(w, d, m, other)
				out = append(out, answer{Call: "MethodOpen", D: d, Other: other, M: m, Open: open, Err: e})
			}
		}
	}
	return out
}

func TestTheWorldStaysAsItWas(t *testing.T) { // R4, R5
	w := town(t)
	second := newTold(townClasses()...)
	before := worldFacts(w)
	ids, methods, all := second.numbers(), second.methods(), append(oddTypes(), second.typesOf(0, 1, 255)...)
	first := answersOf(w, ids, methods, all)
	if !reflect.DeepEqual(worldFacts(w), before) {
		t.Errorf("the questions have turned the world")
	}
	if !reflect.DeepEqual(answersOf(w, ids, methods, all), first) {
		t.Errorf("the same questions have other answers the second time") // R8
	}
	if id, e := w.Define(class("Later", "Object")); id != len(second.classes) || e != api.OK {
		t.Errorf("Define = %d, %d", id, e)
	}
}

func TestLaterClassesTurnNothing(t *testing.T) { // P0.3
	later := townClasses()
	w := hier.New()
	for at, c := range later {
		second := newTold(later[:at]...)
		var ids []int
		for id := range len(second.classes) {
			ids = append(ids, id)
		}
		methods, there := second.methods(), second.typesOf(0, 1, 255)
		before := answersOf(w, ids, methods, there)
		next := len(ids)
		if _, _, e := Package(w, next); e != api.ErrRange {
			t.Errorf("Package(%d) = %d ahead of its class", next, e)
		}
		if _, e := ClassOpen(w, 0, next); e != api.ErrRange {
			t.Errorf("ClassOpen(0, %d) = %d ahead of its class", next, e)
		}
		if _, e := TypeOpen(w, 0, kind(1, c.Name)); e != api.NoClassDef {
			t.Errorf("TypeOpen(0, [%s) = %d ahead of its class", c.Name, e)
		}
		if _, e := MethodOpen(w, next, api.MethodID{}, next); e != api.ErrRange {
			t.Errorf("MethodOpen(%d, .., %d) = %d ahead of its class", next, next, e)
		}
		define(t, w, c)
		after := answersOf(w, ids, methods, there)
		for place, was := range before {
			if m := was.M; m.Class == next {
				continue // it was no method
			}
			if after[place] != was {
				t.Errorf("the arrival of %s turned %s into %s", c.Name, show(was), show(after[place]))
			}
		}
		second = newTold(later[:at+1]...)
		compare(t, w, second, second.numbers(), second.methods(), second.typesOf(0, 1))
	}
}

func TestRefusedClassesAreNotSeen(t *testing.T) { // P8.1 to P8.4: a class that did not arrive
	w := town(t)
	if _, e := w.Define(class("q/Shut", "p/E")); e != api.IllegalAccess {
		t.Fatalf("Define = %d", e)
	}
	if _, _, e := Package(w, w.Len()); e != api.ErrRange {
		t.Errorf("Package = %d", e)
	}
	if got, e := TypeOpen(w, 0, kind(1, "q/Shut")); got || e != api.NoClassDef {
		t.Errorf("TypeOpen = %v, %d", got, e)
	}
}

func TestWorldsAreTheirOwn(t *testing.T) { // R8: what one world was asked says nothing of another
	wide := worldOf(t, class("p/A", "Object", method("m", api.Public)), class("q/B", "Object"))
	narrow := worldOf(t, by(2, shut(class("p/A", "Object", method("m", api.Private)))), class("q/B", "Object"))
	for range 2 {
		for w, want := range map[*hier.World]bool{wide: true, narrow: false} {
			if got, e := ClassOpen(w, 4, 3); got != want || e != api.OK {
				t.Errorf("ClassOpen = %v, %d", got, e)
			}
			if got, e := TypeOpen(w, 4, kind(1, "p/A")); got != want || e != api.OK {
				t.Errorf("TypeOpen = %v, %d", got, e)
			}
			if got, e := MethodOpen(w, 4, api.MethodID{Class: 3}, 3); got != want || e != api.OK {
				t.Errorf("MethodOpen = %v, %d", got, e)
			}
			if loader, _, _ := Package(w, 3); (loader == 0) != want {
				t.Errorf("Package = %d", loader)
			}
		}
	}
}
