package hier

import (
	"reflect"
	"slices"
	"testing"

	"arbiter/api"
)

const junk = "junk"

// roomy lays a list into the middle of a greater one that is full of other things; it answers the list and the whole.
func roomy[T any](list []T, other T) (inside, whole []T) {
	whole = append(whole, other, other)
	whole = append(whole, list...)
	whole = append(whole, other, other, other)
	return whole[2 : 2+len(list)], whole
}

// roomyClass is a class whose lists all have spare room, full of junk; wholes are what the lists lie in.
func roomyClass(c api.Class) (out api.Class, ifaces []string, methods []api.Method, codes [][]api.Inst) {
	out = c
	out.Ifaces, ifaces = roomy(c.Ifaces, junk)
	bodies := slices.Clone(c.Methods)
	for at, m := range bodies {
		inside, whole := roomy(m.Code, api.Inst{Op: 99, N: 99, Type: junk})
		bodies[at].Code = inside
		codes = append(codes, whole)
	}
	out.Methods, methods = roomy(bodies, api.Method{Name: junk})
	return out, ifaces, methods, codes
}

// overwrite writes junk over every element of a class's lists, and over their spare room.
func overwrite(c api.Class) {
	methods := c.Methods[:cap(c.Methods)]
	for at, m := range methods {
		overwriteMethod(m)
		methods[at] = api.Method{Name: junk, Flags: -1}
	}
	ifaces := c.Ifaces[:cap(c.Ifaces)]
	for at := range ifaces {
		ifaces[at] = junk
	}
}

func overwriteMethod(m api.Method) {
	code := m.Code[:cap(m.Code)]
	for at := range code {
		code[at] = api.Inst{Op: -1, Type: junk}
	}
}

func overwriteNumbers(list []int) {
	list = list[:cap(list)]
	for at := range list {
		list[at] = -7
	}
}

func TestNothingHandedInIsChangedOrKept(t *testing.T) { // R4
	for _, name := range []string{"Good", "p/Shut"} { // one that is taken, one that is refused
		w := town(t)
		c, ifaces, methods, codes := roomyClass(fullClass(name))
		ifacesBefore, methodsBefore := slices.Clone(ifaces), slices.Clone(methods)
		var codesBefore [][]api.Inst
		for _, code := range codes {
			codesBefore = append(codesBefore, slices.Clone(code))
		}
		before := twin(c)
		_, e := w.Define(c)
		if !slices.Equal(ifaces, ifacesBefore) || !reflect.DeepEqual(methods, methodsBefore) || !reflect.DeepEqual(codes, codesBefore) || !reflect.DeepEqual(twin(c), before) {
			t.Errorf("Define(%s) changed what was handed in", name)
		}
		answers := everything(w, w.Len())
		overwrite(c)
		for _, code := range codes {
			overwriteMethod(api.Method{Code: code})
		}
		if !reflect.DeepEqual(everything(w, w.Len()), answers) {
			t.Errorf("what is written over behind Define(%s) is seen in answers", name)
		}
		if e == api.OK {
			if got, _ := w.Class(w.Len() - 1); !reflect.DeepEqual(twin(got), before) {
				t.Errorf("Class = %s", show(got))
			}
		}
	}
}

func TestListsWithoutElementsAreNil(t *testing.T) { // R3: in and out
	w := New()
	c := api.Class{Name: "A", Super: "Object", Ifaces: []string{}, Methods: []api.Method{}}
	defineAs(t, w, c, 3)
	c = api.Class{Name: "B", Super: "Object", Flags: api.AbstractFl, Methods: []api.Method{{Name: "m", Desc: "()V", Flags: api.AbstractFl, Code: []api.Inst{}}}}
	defineAs(t, w, c, 4)
	for id, want := range []int{3, 0, 0, 0, 1} {
		if got, e := w.Class(id); e != api.OK || len(got.Ifaces) != 0 || len(got.Methods) != want {
			t.Errorf("Class(%d) = %s, %d", id, show(got), e)
		}
		if got, e := w.Closure(id); e != api.OK || len(got) != 0 {
			t.Errorf("Closure(%d) = %v, %d", id, got, e)
		}
	}
}

func TestAnswersAreNewMemory(t *testing.T) { // R4
	w := town(t)
	defineAs(t, w, fullClass("Full"), w.Len())
	defineAs(t, w, class("FullBelow", "Full", api.Public, "Cloneable"), w.Len())
	before := everything(w, w.Len())
	for id := range w.Len() {
		c, _ := w.Class(id)
		for place := range c.Methods {
			m, _ := w.Method(api.MethodID{Class: id, Index: place})
			overwriteMethod(m)
		}
		overwrite(c)
		chain, _ := w.Chain(id)
		overwriteNumbers(chain)
		closure, _ := w.Closure(id)
		overwriteNumbers(closure)
		if !reflect.DeepEqual(everything(w, w.Len()), before) {
			t.Fatalf("what is written into answers about %d is seen in later ones", id)
		}
	}
	// A class behind the writing is built upon what is kept, so it shows what was hurt there.
	defineAs(t, w, class("Last", "FullBelow", 0, "J", "Serializable"), w.Len())
	list, _ := w.Closure(w.Len() - 1)
	if got := nameList(t, w, list); got != "J I Cloneable Serializable" {
		t.Errorf("Closure = %s", got)
	}
}

func TestListsOfOneAnswerShareNothing(t *testing.T) { // R4: each list is filled up to its room, and the others stay
	w := town(t)
	defineAs(t, w, fullClass("Full"), w.Len())
	for at := range 4 {
		c, _ := w.Class(w.Len() - 1)
		want := twin(c)
		overwriteMethod(c.Methods[at])
		want.Methods[at].Code, c.Methods[at].Code = nil, nil
		if !reflect.DeepEqual(twin(c), want) {
			t.Errorf("the code of method %d lies where another list does", at)
		}
	}
	c, _ := w.Class(w.Len() - 1)
	want := twin(c)
	for _, m := range c.Methods {
		_ = append(m.Code, api.Inst{Op: -1})
	}
	_ = append(c.Methods, api.Method{Name: junk})
	_ = append(c.Ifaces, junk)
	if !reflect.DeepEqual(twin(c), want) {
		t.Errorf("a list that grows turns another")
	}
	again, _ := w.Class(w.Len() - 1)
	if !reflect.DeepEqual(twin(again), want) {
		t.Errorf("a list that grows turns a later answer")
	}
}

func TestAnswersStayAsTheyWere(t *testing.T) { // R4: what was answered is not turned by later calls
	w := town(t)
	defineAs(t, w, fullClass("Full"), w.Len())
	id := w.Len() - 1
	c, _ := w.Class(id)
	chain, _ := w.Chain(id)
	closure, _ := w.Closure(id)
	m, _ := w.Method(api.MethodID{Class: id, Index: 1})
	keptClass, keptChain, keptClosure, keptMethod := twin(c), slices.Clone(chain), slices.Clone(closure), methodTwin(m)
	defineAs(t, w, class("More", "Full", 0, "Cloneable"), w.Len())
	everything(w, w.Len())
	if !reflect.DeepEqual(twin(c), keptClass) || !slices.Equal(chain, keptChain) || !slices.Equal(closure, keptClosure) || !reflect.DeepEqual(methodTwin(m), keptMethod) {
		t.Errorf("an answer was turned by later calls")
	}
}
