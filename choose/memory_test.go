package choose

import (
	"math/rand"
	"reflect"
	"slices"
	"strings"
	"testing"

	"arbiter/api"
	"arbiter/hier"
)

// worldFacts is all that a world answers about its classes, as one value that may be compared.
func worldFacts(w *hier.World) []any {
	out := []any{w.Len()}
	for id := range w.Len() {
		c, _ := w.Class(id)
		super, e := w.Super(id)
		chain, _ := w.Chain(id)
		closure, _ := w.Closure(id)
		at, _ := w.ByName(c.Name)
		out = append(out, c, super, e, chain, closure, at)
		for other := range w.Len() {
			out = append(out, w.Extends(id, other), w.SamePackage(id, other))
		}
	}
	return out
}

// question is what a call was asked, as far as it takes it.
type question struct {
	Call string
	ID   int
	M    api.MethodID
	Kind int
	Ref  api.Ref
	Recv api.Type
}

// names tells whether it names this class.
func (q question) names(class string) bool {
	return q.Ref.Class == class || strings.HasSuffix(q.Ref.Class, "[L"+class+";") || q.Recv.Name == class
}

// answer is what it answered.
type answer struct {
	M   api.MethodID
	Err api.Errno
}

// answersOf asks all calls at these questions.
func answersOf(w *hier.World, ids []int, methods []api.MethodID, asked []invocation) map[question]answer {
	out := map[question]answer{}
	for _, id := range ids {
		for _, m := range methods {
			got, e := Virtual(w, id, m)
			out[question{Call: "Virtual", ID: id, M: m}] = answer{got, e}
			got, e = Interface(w, id, m)
			out[question{Call: "Interface", ID: id, M: m}] = answer{got, e}
		}
	}
	for _, i := range asked {
		got, e := Special(w, i.d, i.ref, i.m)
		out[question{Call: "Special", ID: i.d, M: i.m, Ref: i.ref}] = answer{got, e}
		got, e = Call(w, i.d, i.kind, i.ref, i.recv)
		out[question{Call: "Call", ID: i.d, Kind: i.kind, Ref: i.ref, Recv: i.recv}] = answer{got, e}
	}
	return out
}

func TestTheWorldStaysAsItWas(t *testing.T) { // R4, R5, R8
	w, second := randomWorld(t, 11, 25)
	before := worldFacts(w)
	asked := second.invocations(rand.New(rand.NewSource(11)), 5000)
	first := answersOf(w, second.numbers(), second.methods(), asked)
	if !reflect.DeepEqual(worldFacts(w), before) {
		t.Errorf("the questions have turned the world")
	}
	if !reflect.DeepEqual(answersOf(w, second.numbers(), second.methods(), asked), first) {
		t.Errorf("the same questions have other answers the second time")
	}
	if id, e := w.Define(class("Later", "Object")); id != len(second.classes) || e != api.OK {
		t.Errorf("Define = %d, %d", id, e)
	}
}

// turned asks that just what was not there has turned by the arrival of a class of this name.
func turned(t *testing.T, name string, before, after map[question]answer) {
	t.Helper()
	for q, was := range before {
		if is := after[q]; is != was && (was.Err != api.NoClassDef || !q.names(name)) {
			t.Errorf("the arrival of %s turned %s from %v into %v", name, show(q), was, is)
		}
	}
}

func TestLaterClassesTurnNothing(t *testing.T) { // P0.3
	for seed := range int64(6) {
		_, second := randomWorld(t, 1000+seed, 20)
		all := second.invocations(rand.New(rand.NewSource(seed)), 3000)
		w := hier.New()
		for count := 3; count < len(second.classes); count++ {
			isThere := func(id int) bool { return 0 <= id && id < count }
			ids := slices.DeleteFunc(second.numbers(), func(id int) bool { return !isThere(id) })
			methods := slices.DeleteFunc(second.methods(), func(m api.MethodID) bool { return !isThere(m.Class) })
			asked := slices.DeleteFunc(slices.Clone(all), func(i invocation) bool { return !isThere(i.d) || !isThere(i.m.Class) })
			before := answersOf(w, ids, methods, asked)
			refused(t, w, api.ErrRange, count)
			define(t, w, second.classes[count])
			turned(t, second.classes[count].Name, before, answersOf(w, ids, methods, asked))
		}
		// What was not there is there now, and told as if all had been there from the beginning.
		compare(t, w, second, second.numbers(), second.methods(), all)
	}
}

// TestSelectedForGood: what arrives below, beside, or by the name that was missing, turns nothing else.
func TestSelectedForGood(t *testing.T) { // P0.3
	w := worldOf(t, im("I", abstract), of(class("A", "Object"), "I"), cm("S", "Object", normal), class("B", "S", method("<init>", normal)))
	asked := func() {
		t.Helper()
		call(t, w, "B", api.Virtual, "A.m()V", "A", "", api.Abstract)
		call(t, w, "B", api.Iface, "I:m()V", "A", "", api.Abstract)
		call(t, w, "B", api.Iface, "I:m()V", "B", "", api.Incompatible)
		call(t, w, "B", api.Virtual, "S.m()V", "B", "S.m()V", 0)
		call(t, w, "B", api.Special, "S.m()V", "B", "S.m()V", 0)
		call(t, w, "A", api.Special, "S.<init>()V", "B", "", api.NoSuchMethod)
		call(t, w, "A", api.Virtual, "S.m()V", "[B", "", api.Incompatible)
	}
	asked()
	call(t, w, "B", api.Virtual, "S.m()V", "L", "", api.NoClassDef)
	call(t, w, "B", api.Virtual, "L.m()V", "B", "", api.NoClassDef)
	special(t, w, "B", "L.m()V", "S.m()V", "", api.NoClassDef)
	define(t, w, of(im("J", normal), "I"))
	asked()
	define(t, w, of(cm("L", "B", normal), "J"))
	asked()
	define(t, w, of(class("M", "A"), "J"))
	asked()
	call(t, w, "B", api.Virtual, "S.m()V", "L", "L.m()V", 0)
	call(t, w, "B", api.Virtual, "L.m()V", "B", "", api.Incompatible)
	special(t, w, "B", "L.m()V", "S.m()V", "L.m()V", 0)
	call(t, w, "B", api.Iface, "I:m()V", "M", "J.m()V", 0)
}

func TestAClassThatIsRefusedTurnsNothing(t *testing.T) { // P0.3
	w := worldOf(t, cityClasses()...)
	c, _ := w.Class(number(t, w, "C"))
	asked := func() []any {
		var out []any
		for _, recv := range []string{"A", "C", "N", "New", "[C"} {
			for _, kind := range allKinds {
				m, e := Call(w, number(t, w, "C"), kind, ref("A.m()V"), typed(recv))
				out = append(out, m, e)
			}
		}
		return out
	}
	before := asked()
	for _, c := range list(c, cm("C", "A", abstract), im("C", normal), cm("New", "Missing", normal), cm("New", "I", normal), of(cm("New", "C", normal), "A"), cm("p/New", "q/Shut", normal)) {
		if _, e := w.Define(c); e == api.OK {
			t.Fatalf("Define(%s) took it", show(c))
		}
	}
	if !reflect.DeepEqual(asked(), before) {
		t.Errorf("a class that was refused turned what was answered")
	}
}

func TestWorldsAreTheirOwn(t *testing.T) { // R8: what one world was asked says nothing of another
	wide := worldOf(t, cm("p/A", "Object", normal), cm("q/B", "p/A", normal))
	narrow := worldOf(t, cm("p/A", "Object", normal), cm("q/B", "p/A", abstract))
	other := worldOf(t, cm("q/B", "Object", normal), cm("p/A", "q/B", normal))
	for range 2 {
		call(t, wide, "p/A", api.Virtual, "p/A.m()V", "q/B", "q/B.m()V", 0)
		call(t, narrow, "p/A", api.Virtual, "p/A.m()V", "q/B", "", api.Abstract)
		call(t, other, "p/A", api.Virtual, "p/A.m()V", "q/B", "", api.Incompatible)
		call(t, hier.New(), "Object", api.Virtual, "p/A.m()V", "q/B", "", api.NoClassDef)
	}
}
