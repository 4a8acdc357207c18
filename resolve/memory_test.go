package resolve

import (
	"reflect"
	"strings"
	"testing"

	"arbiter/api"
	"arbiter/hier"
)

// worldFacts is all that a world answers about its classes, as one value that may be compared.
func worldFacts(w *hier.World) []any {
	out := []any{w.Len()}
	for id := range w.Len() {
		c, _ := w.Class(id)
		super, e := w.Super(id)
		chain, _ := w.Chain(id)
		closure, _ := w.Closure(id)
		at, _ := w.ByName(c.Name)
		out = append(out, c, super, e, chain, closure, at)
		for other := range w.Len() {
			out = append(out, w.Extends(id, other), w.SamePackage(id, other))
		}
	}
	return out
}

// question is what a call was asked; Of the texts it takes what it needs.
type question struct {
	Call  string
	ID    int
	Iface bool
	Of    [3]string
}

// answer is what it answered.
type answer struct {
	T   api.Type
	M   api.MethodID
	Err api.Errno
}

// answersOf asks all calls at these numbers and texts.
func answersOf(w *hier.World, ids []int, texts []string) map[question]answer {
	out := map[question]answer{}
	for _, id := range ids {
		for _, text := range texts {
			kind, e := Class(w, id, text)
			out[question{Call: "Class", ID: id, Of: [3]string{text}}] = answer{T: kind, Err: e}
		}
		for _, q := range questions() {
			of := [3]string{"", q[0], q[1]}
			m, e := Lookup(w, id, q[0], q[1])
			out[question{Call: "Lookup", ID: id, Of: of}] = answer{M: m, Err: e}
			m, e = LookupIface(w, id, q[0], q[1])
			out[question{Call: "LookupIface", ID: id, Of: of}] = answer{M: m, Err: e}
		}
		for _, r := range refsTo(texts...) {
			m, e := Method(w, id, r)
			out[question{Call: "Method", ID: id, Iface: r.Iface, Of: [3]string{r.Class, r.Name, r.Desc}}] = answer{M: m, Err: e}
		}
	}
	return out
}

func TestTheWorldStaysAsItWas(t *testing.T) { // R4, R5, R8
	w, second := randomWorld(t, 11, 25)
	before := worldFacts(w)
	ids, texts := second.numbers(), append(second.texts(), noReferences()...)
	first := answersOf(w, ids, texts)
	if !reflect.DeepEqual(worldFacts(w), before) {
		t.Errorf("the questions have turned the world")
	}
	if !reflect.DeepEqual(answersOf(w, ids, texts), first) {
		t.Errorf("the same questions have other answers the second time")
	}
	if id, e := w.Define(class("Later", "Object")); id != len(second.classes) || e != api.OK {
		t.Errorf("Define = %d, %d", id, e)
	}
}

// turned asks that just what was not there has turned by the arrival of a class of this name.
func turned(t *testing.T, name string, before, after map[question]answer) {
	t.Helper()
	for q, was := range before {
		is, arrived := after[q], q.Of[0] == name || strings.HasSuffix(q.Of[0], "[L"+name+";")
		switch {
		case was.Err != api.NoClassDef && is != was:
			t.Errorf("the arrival of %s turned %s from %v into %v", name, show(q), was, is)
		case was.Err == api.NoClassDef && arrived == (is.Err == api.NoClassDef):
			t.Errorf("behind the arrival of %s %s is %v", name, show(q), is)
		case was.Err == api.NoClassDef && !arrived && is != was:
			t.Errorf("the arrival of %s turned %s from %v into %v", name, show(q), was, is)
		}
	}
}

func TestLaterClassesTurnNothing(t *testing.T) { // P0.3, 'What follows'
	for seed := range int64(6) {
		_, second := randomWorld(t, 1000+seed, 16)
		texts := second.texts()
		w, ids := hier.New(), []int{0, 1, 2}
		for _, c := range second.classes[3:] {
			before := answersOf(w, ids, texts)
			refused(t, w, api.ErrRange, len(ids))
			id := define(t, w, c)
			turned(t, c.Name, before, answersOf(w, ids, texts))
			ids = append(ids, id)
		}
	}
}

// TestResolvedForGood: what arrives below, above by its name, or beside, turns nothing.
func TestResolvedForGood(t *testing.T) { // 'What follows'
	w := worldOf(t, im("I", abstract), of(class("A", "Object"), "I"), cm("S", "Object", api.Private), class("B", "S"))
	asked := func() {
		t.Helper()
		resolves(t, w, "A", "A.m()V", "I.m()V", 0)
		resolves(t, w, "A", "I:m()V", "I.m()V", 0)
		resolves(t, w, "A", "B.m()V", "", api.IllegalAccess)
		resolves(t, w, "A", "B.n()V", "", api.NoSuchMethod)
		resolves(t, w, "A", "B:m()V", "", api.Incompatible)
		resolves(t, w, "A", "[LB;.m()V", "", api.NoSuchMethod)
	}
	asked()
	resolves(t, w, "A", "L.m()V", "", api.NoClassDef)
	resolves(t, w, "A", "[LL;.id()I", "", api.NoClassDef)
	define(t, w, of(im("J", normal), "I"))
	asked()
	define(t, w, of(class("L", "A", method("m", normal), method("n", normal)), "J"))
	asked()
	define(t, w, class("M", "B", method("m", normal), method("n", normal)))
	asked()
	resolves(t, w, "A", "L.m()V", "L.m()V", 0)
	resolves(t, w, "A", "[LL;.id()I", "Object.id()I", 0)
}

func TestAClassThatIsRefusedTurnsNothing(t *testing.T) { // P0.3
	w := worldOf(t, append(cityClasses(), cm("A", "Object", normal))...)
	var ids []int
	for id := range w.Len() + 1 {
		ids = append(ids, id)
	}
	texts := []string{"A", "[LA;", "New", "[LNew;", "p/A", "p/E", "q/New"}
	before := answersOf(w, ids, texts)
	for _, c := range list(cm("A", "Object", abstract), im("A", normal), class("New", "Missing"), class("New", "p/I"), of(class("New", "Object"), "p/A"), class("q/New", "p/E")) {
		if _, e := w.Define(c); e == api.OK {
			t.Fatalf("Define(%s) took it", show(c))
		}
	}
	if !reflect.DeepEqual(answersOf(w, ids, texts), before) {
		t.Errorf("a class that was refused turned what was answered")
	}
	classIs(t, w, 0, "New", api.Type{}, api.NoClassDef)
	define(t, w, class("New", "A"))
	resolves(t, w, "p/A", "New.m()V", "A.m()V", 0)
}

func TestWorldsAreTheirOwn(t *testing.T) { // R8: what one world was asked says nothing of another
	wide := worldOf(t, cm("p/A", "Object", normal), class("q/B", "p/A"))
	narrow := worldOf(t, cm("p/A", "Object", api.Private), class("q/B", "p/A"))
	other := worldOf(t, class("q/B", "Object"), shut(class("p/A", "Object")))
	for range 2 {
		resolves(t, wide, "q/B", "q/B.m()V", "p/A.m()V", 0)
		resolves(t, narrow, "q/B", "q/B.m()V", "", api.IllegalAccess)
		resolves(t, other, "q/B", "q/B.m()V", "", api.NoSuchMethod)
		resolves(t, other, "q/B", "p/A.m()V", "", api.IllegalAccess)
		resolves(t, hier.New(), "Object", "q/B.m()V", "", api.NoClassDef)
	}
}
