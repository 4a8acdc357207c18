package override

import (
	"fmt"
	"math"
	"slices"
	"strings"
	"testing"

	"arbiter/api"
	"arbiter/hier"
)

// method has the descriptor ()V, unless its name brings one.
func method(name string, flags int) api.Method {
	m := api.Method{Name: name, Desc: "()V", Flags: flags}
	if at := strings.Index(name, "("); at >= 0 {
		m.Name, m.Desc = name[:at], name[at:]
	}
	if flags&api.AbstractFl == 0 {
		m.Locals, m.Code = 4, []api.Inst{{Op: api.Return}}
	}
	return m
}

func class(name, super string, methods ...api.Method) api.Class {
	return api.Class{Name: name, Super: super, Flags: api.Public | api.Super, Methods: methods}
}

func iface(name string, methods ...api.Method) api.Class {
	return api.Class{Name: name, Super: "Object", Flags: api.Public | api.Interface | api.AbstractFl, Methods: methods}
}

// m makes a class with one method m.
func m(name, super string, flags int) api.Class {
	return class(name, super, method("m", flags))
}

func by(loader int, c api.Class) api.Class {
	c.Loader = loader
	return c
}

func of(c api.Class, ifaces ...string) api.Class {
	c.Ifaces = ifaces
	return c
}

func list(classes ...api.Class) []api.Class {
	return classes
}

func define(t *testing.T, w *hier.World, c api.Class) int {
	t.Helper()
	id, e := w.Define(c)
	if e != api.OK {
		t.Fatalf("Define(%v): %d", c, e)
	}
	return id
}

func worldOf(t *testing.T, classes ...api.Class) *hier.World {
	t.Helper()
	w := hier.New()
	for _, c := range classes {
		define(t, w, c)
	}
	return w
}

func number(t *testing.T, w *hier.World, name string) int {
	t.Helper()
	id, e := w.ByName(name)
	if e != api.OK {
		t.Fatalf("ByName(%s): %d", name, e)
	}
	return id
}

// at finds a method by a text: p/A is p/A's m ()V, p/A.n p/A's n ()V, p/A.n()I p/A's n ()I.
func at(t *testing.T, w *hier.World, text string) api.MethodID {
	t.Helper()
	name, rest, _ := strings.Cut(text, ".")
	if rest == "" {
		rest = "m"
	}
	want, id := method(rest, 0), number(t, w, name)
	index, e := w.Find(id, want.Name, want.Desc)
	if e != api.OK {
		t.Fatalf("Find(%s): %d", text, e)
	}
	return api.MethodID{Class: id, Index: index}
}

// holds asks Plain and Overrides of two methods.
func holds(t *testing.T, w *hier.World, c, a string, plain, want bool) {
	t.Helper()
	if got, e := Plain(w, at(t, w, c), at(t, w, a)); got != plain || e != api.OK {
		t.Errorf("Plain(%s, %s) = %v, %d", c, a, got, e)
	}
	if got, e := Overrides(w, at(t, w, c), at(t, w, a)); got != want || e != api.OK {
		t.Errorf("Overrides(%s, %s) = %v, %d", c, a, got, e)
	}
}

// firstIs asks First; the empty text stands for none.
func firstIs(t *testing.T, w *hier.World, r, a, want string) {
	t.Helper()
	wantID, wantErr := api.MethodID{}, api.ErrNone
	if want != "" {
		wantID, wantErr = at(t, w, want), api.OK
	}
	if got, e := First(w, number(t, w, r), at(t, w, a)); got != wantID || e != wantErr {
		t.Errorf("First(%s, %s) = %v, %d, want %v, %d", r, a, got, e, wantID, wantErr)
	}
}

func allAre(t *testing.T, w *hier.World, a string, want ...string) {
	t.Helper()
	var ids []api.MethodID
	for _, text := range want {
		ids = append(ids, at(t, w, text))
	}
	if got, e := All(w, at(t, w, a)); !slices.Equal(got, ids) || e != api.OK {
		t.Errorf("All(%s) = %v, %d, want %v", a, got, e, ids)
	}
}

// TestPlainEachConditionAlone begins with what plainly overrides, and breaks one condition at a time.
func TestPlainEachConditionAlone(t *testing.T) { // P9.1
	open, shut, kin, static := api.Public, api.Private, api.Protected, api.Static
	for _, c := range []struct {
		what    string
		classes []api.Class
		c, a    string
		want    bool
	}{
		{"as it is asked", list(m("p/A", "Object", open), m("q/B", "p/A", open)), "q/B", "p/A", true},
		{"c with Protected", list(m("p/A", "Object", open), m("q/B", "p/A", kin)), "q/B", "p/A", true},
		{"c without a word", list(m("p/A", "Object", open), m("q/B", "p/A", 0)), "q/B", "p/A", true},
		{"c Final and a Final", list(m("p/A", "Object", open|api.Final), m("q/B", "p/A", open|api.Final)), "q/B", "p/A", true},
		{"c abstract", list(m("p/A", "Object", open), m("q/B", "p/A", open|api.AbstractFl)), "q/B", "p/A", true},
		{"a abstract", list(m("p/A", "Object", open|api.AbstractFl), m("q/B", "p/A", open)), "q/B", "p/A", true},
		{"a class between", list(m("p/A", "Object", open), class("r/M", "p/A"), m("q/B", "r/M", open)), "q/B", "p/A", true},

		{"c Static", list(m("p/A", "Object", open), m("q/B", "p/A", open|static)), "q/B", "p/A", false},
		{"a Static", list(m("p/A", "Object", open|static), m("q/B", "p/A", open)), "q/B", "p/A", false},
		{"c and a Static", list(m("p/A", "Object", open|static), m("q/B", "p/A", open|static)), "q/B", "p/A", false},
		{"a Static in an interface", list(iface("I", method("m", open|static)), of(m("B", "Object", open), "I")), "B", "I", false},
		{"c Static below an interface", list(iface("I", method("m", open)), of(m("B", "Object", open|static), "I")), "B", "I", false},
		{"c and a <init>", list(class("p/A", "Object", method("<init>", open)), class("q/B", "p/A", method("<init>", open))), "q/B.<init>", "p/A.<init>", false},
		{"c <init>", list(m("p/A", "Object", open), class("q/B", "p/A", method("<init>", open))), "q/B.<init>", "p/A", false},
		{"a <init>", list(class("p/A", "Object", method("<init>", open)), m("q/B", "p/A", open)), "q/B", "p/A.<init>", false},
		{"Object's <init>", list(class("A", "Object", method("<init>", open))), "A.<init>", "Object.<init>", false},
		{"another Name", list(m("p/A", "Object", open), class("q/B", "p/A", method("n", open))), "q/B.n", "p/A", false},
		{"a Name that goes on", list(m("p/A", "Object", open), class("q/B", "p/A", method("mm", open))), "q/B.mm", "p/A", false},
		{"another Desc", list(m("p/A", "Object", open), class("q/B", "p/A", method("m(I)V", open))), "q/B.m(I)V", "p/A", false},
		{"another Desc by what is answered", list(m("p/A", "Object", open), class("q/B", "p/A", method("m()I", open))), "q/B.m()I", "p/A", false},
		{"another Desc, which names a class below", list(class("p/A", "Object", method("m(Lp/A;)V", open)), class("q/B", "p/A", method("m(Lq/B;)V", open))), "q/B.m(Lq/B;)V", "p/A.m(Lp/A;)V", false},
		{"c in an interface, a in one above it", list(iface("I", method("m", open)), of(iface("J", method("m", open)), "I")), "J", "I", false},
		{"c in an interface, a in Object", list(iface("I", method("id()I", open))), "I.id()I", "Object.id()I", false},
		{"one class", list(m("p/A", "Object", open)), "p/A", "p/A", false},
		{"one class, an interface", list(iface("I", method("m", open))), "I", "I", false},
		{"one class, two methods", list(class("p/A", "Object", method("m", open), method("m(I)V", open))), "p/A", "p/A.m(I)V", false},
		{"a class beside", list(class("S", "Object"), m("A", "S", open), m("B", "S", open)), "B", "A", false},
		{"a class below", list(m("p/A", "Object", open), m("q/B", "p/A", open)), "p/A", "q/B", false},
		{"an interface that is not above", list(iface("I", method("m", open)), m("B", "Object", open)), "B", "I", false},
		{"c Private", list(m("p/A", "Object", open), m("q/B", "p/A", shut)), "q/B", "p/A", false},
		{"c Private in one package", list(m("p/A", "Object", 0), m("p/B", "p/A", shut)), "p/B", "p/A", false},
		{"c Private below an interface", list(iface("I", method("m", open)), of(m("B", "Object", shut), "I")), "B", "I", false},

		{"a Private in a class", list(m("p/A", "Object", shut), m("q/B", "p/A", open)), "q/B", "p/A", false},
		{"a Private in a class of the same package", list(m("p/A", "Object", shut), m("p/B", "p/A", open)), "p/B", "p/A", false},
		{"a Private in an interface", list(iface("I", method("m", shut)), of(m("B", "Object", open), "I")), "B", "I", false},
		{"a in an interface", list(iface("p/I", method("m", open)), of(m("q/B", "Object", open), "p/I")), "q/B", "p/I", true},
		{"a abstract in an interface", list(iface("p/I", method("m", open|api.AbstractFl)), of(m("q/B", "Object", kin), "p/I")), "q/B", "p/I", true},
		{"a Protected in another package", list(m("p/A", "Object", kin), m("q/B", "p/A", open)), "q/B", "p/A", true},
		{"a Protected in the same package", list(m("p/A", "Object", kin), m("p/B", "p/A", kin)), "p/B", "p/A", true},
		{"a Protected, with two Loaders", list(m("p/A", "Object", kin), by(1, m("p/B", "p/A", kin))), "p/B", "p/A", true},
		{"Object's kin", list(class("q/B", "Object", method("kin()LObject;", 0))), "q/B.kin()LObject;", "Object.kin()LObject;", true},

		{"a without a word, within one run-time package", list(m("p/A", "Object", 0), m("p/B", "p/A", 0)), "p/B", "p/A", true},
		{"a without a word, within the package without a name", list(m("A", "Object", 0), m("B", "A", open)), "B", "A", true},
		{"a without a word, within one run-time package with another Loader", list(by(9, m("p/A", "Object", 0)), by(9, m("p/B", "p/A", kin))), "p/B", "p/A", true},
		{"a without a word, of one package with two Loaders", list(m("p/A", "Object", 0), by(1, m("p/B", "p/A", open))), "p/B", "p/A", false},
		{"a without a word, of one package with two Loaders, turned", list(by(9, m("p/A", "Object", 0)), m("p/B", "p/A", open)), "p/B", "p/A", false},
		{"a without a word, of two packages", list(m("p/A", "Object", 0), m("q/B", "p/A", open)), "q/B", "p/A", false},
		{"a without a word, of a package in the package", list(m("p/A", "Object", 0), m("p/q/B", "p/A", open)), "p/q/B", "p/A", false},
		{"a without a word, of two packages and two Loaders", list(m("p/A", "Object", 0), by(1, m("q/B", "p/A", open))), "q/B", "p/A", false},
		{"a without a word and Final, of one package", list(m("p/A", "Object", api.Final), m("p/B", "p/A", open)), "p/B", "p/A", true},
		{"a without a word and abstract, of two packages", list(m("p/A", "Object", api.AbstractFl), m("q/B", "p/A", open)), "q/B", "p/A", false},
	} {
		t.Run(c.what, func(t *testing.T) {
			w := worldOf(t, c.classes...)
			// These worlds have no third method of that name, so what overrides does so plainly, or is the method itself.
			holds(t, w, c.c, c.a, c.want, c.want || c.c == c.a)
		})
	}
}

// TestReachesMethodsOfInterfaces: in a world these are Public or Private, so the rule, which asks for Private alone, is asked by itself.
func TestReachesMethodsOfInterfaces(t *testing.T) { // P9.1
	w := worldOf(t, iface("p/I", method("m", api.Public)), of(m("q/B", "Object", api.Public), "p/I"))
	lower, upper, e := readBoth(w, at(t, w, "q/B"), at(t, w, "p/I"))
	if e != api.OK {
		t.Fatalf("readBoth: %d", e)
	}
	for _, open := range []int{api.Public, api.Protected, 0, api.Private} {
		upper.Flags = open
		if got := lower.reaches(upper); got != (open != api.Private) {
			t.Errorf("a method of an interface with flags %d: %v", open, got)
		}
	}
}

func TestOverridesItself(t *testing.T) { // P9.1: a method is plainly overridden by none of its own class, and overridden by itself, if it is not Static
	words := []int{api.Public, api.Protected, 0, api.Private}
	for _, word := range words {
		for _, more := range []int{0, api.Final, api.Static, api.Static | api.Final} {
			w := worldOf(t, m("p/A", "Object", word|more))
			holds(t, w, "p/A", "p/A", false, more&api.Static == 0)
		}
		w := worldOf(t, class("p/A", "Object", method("<init>", word), method("<init>(I)V", word)))
		holds(t, w, "p/A.<init>", "p/A.<init>", false, true)
		holds(t, w, "p/A.<init>", "p/A.<init>(I)V", false, false)
	}
	for _, f := range []int{api.Public, api.Private, api.Public | api.AbstractFl} {
		holds(t, worldOf(t, iface("I", method("m", f))), "I", "I", false, true)
	}
	for _, f := range []int{api.Public | api.Static, api.Private | api.Static} {
		holds(t, worldOf(t, iface("I", method("m", f))), "I", "I", false, false)
	}
	holds(t, worldOf(t, m("A", "Object", api.Protected|api.AbstractFl)), "A", "A", false, true)
	w := hier.New()
	for _, own := range []string{"Object.<init>", "Object.id()I", "Object.kin()LObject;"} {
		holds(t, w, own, own, false, true)
	}
	holds(t, w, "Object.id()I", "Object.<init>", false, false)
}

func TestOverridesByWayOfOne(t *testing.T) { // P9.1
	w := worldOf(t, m("p/A", "Object", 0), m("p/B", "p/A", api.Public), m("q/C", "p/B", api.Public))
	holds(t, w, "p/B", "p/A", true, true)
	holds(t, w, "q/C", "p/B", true, true)
	holds(t, w, "q/C", "p/A", false, true)
	holds(t, w, "p/A", "q/C", false, false)
	holds(t, w, "p/B", "q/C", false, false)

	w = worldOf(t, m("p/A", "Object", 0), m("p/B", "p/A", api.Protected), class("r/M", "p/B"), by(1, m("p/C", "r/M", 0)))
	holds(t, w, "p/C", "p/A", false, true)
}

func TestOverridesByWayOfTwo(t *testing.T) { // P9.1
	w := worldOf(t, m("p/A", "Object", 0), m("p/B", "p/A", 0), m("p/C", "p/B", api.Public), m("q/D", "p/C", api.Public), m("r/E", "q/D", 0), m("r/F", "r/E", 0))
	holds(t, w, "p/C", "p/A", true, true)
	holds(t, w, "q/D", "p/B", false, true)
	holds(t, w, "q/D", "p/A", false, true)
	holds(t, w, "r/E", "p/A", false, true)
	holds(t, w, "r/F", "p/A", false, true)
	holds(t, w, "r/F", "r/E", true, true)
	holds(t, w, "r/F", "q/D", true, true)
	allAre(t, w, "p/A", "p/A", "p/B", "p/C", "q/D", "r/E", "r/F")
	allAre(t, w, "p/B", "p/B", "p/C", "q/D", "r/E", "r/F")
}

func TestOverridesWhereNoWayLeads(t *testing.T) { // P9.1: what stands between does not override itself, or is not overridden
	for what, between := range map[string]api.Class{
		"a private one":                    m("p/B", "p/A", api.Private),
		"a static one":                     m("p/B", "p/A", api.Public|api.Static),
		"one without a word":               m("p/B", "p/A", 0),
		"one of another package":           m("r/B", "p/A", api.Public),
		"one of another Loader":            by(1, m("p/B", "p/A", api.Public)),
		"one of another Name":              class("p/B", "p/A", method("n", api.Public)),
		"one of another Desc":              class("p/B", "p/A", method("m(I)V", api.Public)),
		"none":                             class("p/B", "p/A"),
		"a private one of another package": m("r/B", "p/A", api.Private),
	} {
		t.Run(what, func(t *testing.T) {
			w := worldOf(t, m("p/A", "Object", 0), between, m("q/C", between.Name, api.Public))
			holds(t, w, "q/C", "p/A", false, false)
			firstIs(t, w, "p/A", "p/A", "p/A")
			firstIs(t, w, "q/C", "q/C", "q/C")
			want := []string{"p/A"}
			if what == "one without a word" {
				want = append(want, "p/B")
			}
			allAre(t, w, "p/A", want...)
			firstIs(t, w, "q/C", "p/A", want[len(want)-1])
		})
	}
}

func TestOverridesPastAPrivateMethod(t *testing.T) { // P9.1: what stands between need not override, where another way leads
	w := worldOf(t, m("p/A", "Object", 0), m("p/B", "p/A", api.Private), m("p/C", "p/B", 0), m("p/D", "p/C", api.Public|api.Static), m("p/E", "p/D", api.Protected), m("q/F", "p/E", 0))
	holds(t, w, "p/C", "p/A", true, true)
	holds(t, w, "p/C", "p/B", false, false)
	holds(t, w, "q/F", "p/A", false, true)
	holds(t, w, "q/F", "p/B", false, false)
	holds(t, w, "q/F", "p/D", false, false)
	allAre(t, w, "p/A", "p/A", "p/C", "p/E", "q/F")
	allAre(t, w, "p/B", "p/B")
	allAre(t, w, "p/D")
	firstIs(t, w, "p/B", "p/A", "p/A")
	firstIs(t, w, "p/D", "p/A", "p/C")
	firstIs(t, w, "p/E", "p/B", "p/B")
	firstIs(t, w, "q/F", "p/D", "")
}

func TestOverridesWhatIsNotSeen(t *testing.T) { // P9.1: p/A's m is open to p alone, and yet q/D and p/E of another Loader override it
	w := worldOf(t, m("p/A", "Object", 0), m("q/B", "p/A", api.Public), m("p/C", "q/B", api.Public), m("q/D", "p/C", 0), by(3, m("p/E", "p/C", api.Protected)), m("q/F", "q/B", api.Public))
	holds(t, w, "q/B", "p/A", false, false)
	holds(t, w, "q/D", "p/A", false, true)
	holds(t, w, "p/E", "p/A", false, true)
	holds(t, w, "q/F", "p/A", false, false)
	holds(t, w, "q/F", "q/B", true, true)
	holds(t, w, "q/F", "p/C", false, false)
	allAre(t, w, "p/A", "p/A", "p/C", "q/D", "p/E")
	firstIs(t, w, "q/F", "p/A", "p/A")
}

func TestInterfacesAboveInterfaces(t *testing.T) { // P9.1 to P9.3
	open := api.Public
	w := worldOf(t,
		iface("I", method("m", open|api.AbstractFl)),
		of(iface("J", method("m", open)), "I"),
		of(iface("K"), "J"),
		of(class("A", "Object"), "K"),
		m("q/B", "A", 0),
		m("q/C", "q/B", open))
	holds(t, w, "J", "I", false, false)
	for _, c := range []string{"q/B", "q/C"} {
		holds(t, w, c, "I", true, true)
		holds(t, w, c, "J", true, true)
		holds(t, w, "I", c, false, false)
		holds(t, w, "J", c, false, false)
	}
	allAre(t, w, "I", "I", "q/B", "q/C")
	allAre(t, w, "J", "J", "q/B", "q/C")
	for _, a := range []string{"I", "J"} {
		firstIs(t, w, "Object", a, "")
		firstIs(t, w, "K", a, "")
		firstIs(t, w, "A", a, "")
		firstIs(t, w, a, a, a)
		firstIs(t, w, "q/B", a, "q/B")
		firstIs(t, w, "q/C", a, "q/C")
	}
	firstIs(t, w, "J", "I", "")
	firstIs(t, w, "I", "J", "")
}

func TestInterfacesAndObject(t *testing.T) { // P9.1 to P9.3: an interface extends Object, and overrides nothing of it
	w := worldOf(t, iface("I", method("id()I", api.Public)), of(class("A", "Object", method("id()I", api.Public)), "I"), of(class("B", "Object"), "I"))
	holds(t, w, "I.id()I", "Object.id()I", false, false)
	holds(t, w, "A.id()I", "I.id()I", true, true)
	holds(t, w, "A.id()I", "Object.id()I", true, true)
	holds(t, w, "Object.id()I", "I.id()I", false, false)
	allAre(t, w, "Object.id()I", "Object.id()I", "A.id()I")
	allAre(t, w, "I.id()I", "I.id()I", "A.id()I")
	firstIs(t, w, "I", "Object.id()I", "Object.id()I")
	firstIs(t, w, "I", "I.id()I", "I.id()I")
	firstIs(t, w, "B", "I.id()I", "")
	firstIs(t, w, "B", "Object.id()I", "Object.id()I")
	firstIs(t, w, "A", "Object.id()I", "A.id()I")
	firstIs(t, w, "Cloneable", "Object.id()I", "Object.id()I")
}

func TestFromTheSuperclassAndTheInterface(t *testing.T) { // P9.1, P9.2: a superclass does not override for what is below it
	open := api.Public
	with := func(methods ...api.Method) *hier.World {
		return worldOf(t, iface("I", method("m", open)), m("S", "Object", open), of(class("A", "S", methods...), "I"), class("B", "A"), m("C", "B", api.Protected))
	}
	w := with()
	holds(t, w, "S", "I", false, false)
	holds(t, w, "C", "I", true, true)
	holds(t, w, "C", "S", true, true)
	firstIs(t, w, "S", "I", "")
	firstIs(t, w, "A", "I", "")
	firstIs(t, w, "B", "I", "")
	firstIs(t, w, "B", "S", "S")
	firstIs(t, w, "C", "I", "C")
	allAre(t, w, "I", "I", "C")
	w = with(method("m", open))
	holds(t, w, "S", "I", false, false)
	holds(t, w, "A", "I", true, true)
	firstIs(t, w, "A", "I", "A")
	firstIs(t, w, "B", "I", "A")
	firstIs(t, w, "C", "I", "C")
	allAre(t, w, "I", "I", "A", "C")
	w = with(method("m", api.Private))
	holds(t, w, "A", "I", false, false)
	firstIs(t, w, "A", "I", "")
	firstIs(t, w, "A", "S", "S")
	firstIs(t, w, "C", "I", "C")
}

func TestFirstFromEachClassOfAChain(t *testing.T) { // P9.2
	w := worldOf(t, class("A", "Object"), m("B", "A", api.Public), class("C", "B"), m("D", "C", api.Public), class("E", "D"), m("F", "B", api.Public|api.Static))
	for _, c := range []struct{ r, a, want string }{
		{"Object", "B", ""}, {"A", "B", ""}, {"B", "B", "B"}, {"C", "B", "B"}, {"D", "B", "D"}, {"E", "B", "D"}, {"F", "B", "B"},
		{"Object", "D", ""}, {"A", "D", ""}, {"B", "D", ""}, {"C", "D", ""}, {"D", "D", "D"}, {"E", "D", "D"}, {"F", "D", ""},
		{"Object", "F", ""}, {"B", "F", ""}, {"F", "F", ""}, {"E", "F", ""},
		{"Cloneable", "B", ""}, {"Serializable", "Object.id()I", "Object.id()I"},
		{"Object", "Object.<init>", "Object.<init>"}, {"E", "Object.<init>", "Object.<init>"},
	} {
		firstIs(t, w, c.r, c.a, c.want)
	}
}

func TestFirstOfConstructors(t *testing.T) { // P9.2: of <init> each class has its own, and passes over the others
	w := worldOf(t, class("A", "Object", method("<init>", api.Public)), class("B", "A", method("<init>", api.Public)))
	firstIs(t, w, "B", "A.<init>", "A.<init>")
	firstIs(t, w, "B", "Object.<init>", "Object.<init>")
	firstIs(t, w, "B", "B.<init>", "B.<init>")
	firstIs(t, w, "A", "B.<init>", "")
	allAre(t, w, "Object.<init>", "Object.<init>")
	allAre(t, w, "A.<init>", "A.<init>")
}

func TestFirstOfTheMethodsOfInterfaces(t *testing.T) { // P9.2: the interface itself is in its own chain alone
	w := worldOf(t, iface("I", method("m", api.Public), method("p", api.Private), method("s", api.Public|api.Static)),
		of(class("A", "Object", method("m", api.Public), method("p", api.Public), method("s", api.Public)), "I"), class("B", "A"))
	firstIs(t, w, "I", "I", "I")
	firstIs(t, w, "A", "I", "A")
	firstIs(t, w, "B", "I", "A")
	firstIs(t, w, "Object", "I", "")
	firstIs(t, w, "I", "I.p", "I.p")
	firstIs(t, w, "B", "I.p", "")
	firstIs(t, w, "I", "I.s", "")
	firstIs(t, w, "B", "I.s", "")
	firstIs(t, w, "I", "A", "")
}

func TestAllInTwoBranches(t *testing.T) { // P9.3: by the numbers, whichever branch they are of
	open := api.Public
	w := worldOf(t, m("A", "Object", open), m("Z", "A", open), m("B", "A", open), class("Y", "Z"), class("C", "B"), m("X", "Y", open), m("D", "C", open), m("W", "X", api.Private), m("V", "W", api.Protected), m("Alone", "Object", open))
	allAre(t, w, "A", "A", "Z", "B", "X", "D", "V")
	allAre(t, w, "Z", "Z", "X", "V")
	allAre(t, w, "B", "B", "D")
	allAre(t, w, "D", "D")
	allAre(t, w, "W", "W")
	allAre(t, w, "Alone", "Alone")
}

// TestAllIsTheMethodNotItsPlace: the methods that override stand at other places of their classes.
func TestAllIsTheMethodNotItsPlace(t *testing.T) { // P9.2, P9.3
	open := api.Public
	w := worldOf(t,
		class("A", "Object", method("k", open), method("n", open), method("m", open)),
		class("B", "A", method("m", open), method("m(I)V", open), method("n", open)),
		class("C", "B", method("m(I)V", open), method("n", open), method("m", open)))
	for _, name := range []string{".m", ".n"} {
		allAre(t, w, "A"+name, "A"+name, "B"+name, "C"+name)
		firstIs(t, w, "C", "A"+name, "C"+name)
		holds(t, w, "C"+name, "A"+name, true, true)
	}
	allAre(t, w, "A.k", "A.k")
	allAre(t, w, "B.m(I)V", "B.m(I)V", "C.m(I)V")
	firstIs(t, w, "C", "A.k", "A.k")
	firstIs(t, w, "A", "B.m(I)V", "")
}

func TestAllOfStaticMethods(t *testing.T) { // P9.3: none, whatever stands below
	for _, word := range []int{api.Public, api.Protected, 0, api.Private} {
		w := worldOf(t, m("A", "Object", word|api.Static), m("B", "A", api.Public), m("C", "B", api.Public|api.Static))
		allAre(t, w, "A")
		allAre(t, w, "B", "B")
		allAre(t, w, "C")
		firstIs(t, w, "B", "A", "")
		firstIs(t, w, "A", "A", "")
		holds(t, w, "B", "A", false, false)
	}
	w := worldOf(t, iface("I", method("m", api.Public|api.Static)), of(m("A", "Object", api.Public), "I"))
	allAre(t, w, "I")
}

func TestAChainOfAllClasses(t *testing.T) { // P9.1 to P9.3: as deep as a world takes, of two packages by turns
	isOfP := func(n int) bool { return n/2%2 == 1 }
	w, super := hier.New(), "Object"
	for n := 3; n < api.MaxClasses; n++ {
		name := fmt.Sprint("q/C", n)
		if isOfP(n) {
			name = fmt.Sprint("p/C", n)
		}
		define(t, w, m(name, super, 0))
		super = name
	}
	// Without a word each overrides those of its own package alone, and all of those.
	top := api.MethodID{Class: 3}
	var want []api.MethodID
	for n := 3; n < api.MaxClasses; n++ {
		id := api.MethodID{Class: n}
		if isOfP(n) {
			want = append(want, id)
		}
		if got, e := Overrides(w, id, top); got != isOfP(n) || e != api.OK {
			t.Errorf("Overrides(%v, %v) = %v, %d", id, top, got, e)
		}
		if got, e := First(w, n, top); got != want[len(want)-1] || e != api.OK {
			t.Errorf("First(%d, %v) = %v, %d", n, top, got, e)
		}
	}
	if got, e := All(w, top); !slices.Equal(got, want) || e != api.OK {
		t.Errorf("All(%v) = %v, %d", top, got, e)
	}
}

// oddNumbers are numbers of no class of any world, and of no method of any class.
var oddNumbers = []int{-1, math.MinInt, math.MaxInt, -2, 300, 301, 1 << 32, -1 << 32, 1<<32 + 1}

func refused(t *testing.T, w *hier.World, want api.Errno, c, a api.MethodID) {
	t.Helper()
	if got, e := Plain(w, c, a); got || e != want {
		t.Errorf("Plain(%v, %v) = %v, %d", c, a, got, e)
	}
	if got, e := Overrides(w, c, a); got || e != want {
		t.Errorf("Overrides(%v, %v) = %v, %d", c, a, got, e)
	}
}

func firstRefused(t *testing.T, w *hier.World, want api.Errno, r int, a api.MethodID) {
	t.Helper()
	if got, e := First(w, r, a); got != (api.MethodID{}) || e != want {
		t.Errorf("First(%d, %v) = %v, %d", r, a, got, e)
	}
}

func allRefused(t *testing.T, w *hier.World, want api.Errno, a api.MethodID) {
	t.Helper()
	if got, e := All(w, a); len(got) != 0 || e != want {
		t.Errorf("All(%v) = %v, %d", a, got, e)
	}
}

func TestNoNumbers(t *testing.T) { // P9.1 to P9.3: c, a and r, one at a time and together, of Class and of Index
	w := worldOf(t, m("A", "Object", api.Public), m("B", "A", api.Public), m("C", "B", api.Public|api.Static))
	for _, good := range []api.MethodID{{}, at(t, w, "A"), at(t, w, "B"), at(t, w, "C")} {
		for _, odd := range append([]int{w.Len(), w.Len() + 1}, oddNumbers...) {
			for _, none := range []api.MethodID{{Class: odd}, {Class: good.Class, Index: odd}, {Class: odd, Index: odd}, {Class: odd, Index: -1}} {
				refused(t, w, api.ErrRange, none, good)
				refused(t, w, api.ErrRange, good, none)
				refused(t, w, api.ErrRange, none, none)
				refused(t, w, api.ErrRange, none, api.MethodID{Class: -1})
				firstRefused(t, w, api.ErrRange, good.Class, none)
				firstRefused(t, w, api.ErrRange, odd, none)
				allRefused(t, w, api.ErrRange, none)
			}
			firstRefused(t, w, api.ErrRange, odd, good)
		}
	}
}

func TestAtTheEdges(t *testing.T) { // P9.1 to P9.3: of Class and of Index both edges and one beyond, of classes with methods and without
	many := class("Many", "Object")
	for n := range api.MaxMethods {
		many.Methods = append(many.Methods, method(fmt.Sprint("m", n), api.Public))
	}
	w := worldOf(t, class("None", "Object"), many)
	for class := -1; class <= w.Len(); class++ {
		c, _ := w.Class(class)
		for _, index := range []int{-1, 0, len(c.Methods) - 1, len(c.Methods)} {
			id := api.MethodID{Class: class, Index: index}
			if index < 0 || index >= len(c.Methods) {
				refused(t, w, api.ErrRange, id, id)
				refused(t, w, api.ErrRange, id, api.MethodID{})
				refused(t, w, api.ErrRange, api.MethodID{}, id)
				firstRefused(t, w, api.ErrRange, 0, id)
				allRefused(t, w, api.ErrRange, id)
				continue
			}
			if got, e := Overrides(w, id, id); !got || e != api.OK {
				t.Errorf("Overrides(%v, %v) = %v, %d", id, id, got, e)
			}
			if got, e := Plain(w, id, id); got || e != api.OK {
				t.Errorf("Plain(%v, %v) = %v, %d", id, id, got, e)
			}
			if got, e := First(w, class, id); got != id || e != api.OK {
				t.Errorf("First(%d, %v) = %v, %d", class, id, got, e)
			}
			if got, e := All(w, id); !slices.Equal(got, []api.MethodID{id}) || e != api.OK {
				t.Errorf("All(%v) = %v, %d", id, got, e)
			}
		}
	}
	last := api.MethodID{Class: w.Len() - 1, Index: api.MaxMethods - 1}
	firstRefused(t, w, api.ErrNone, 0, last)
	firstRefused(t, w, api.ErrNone, w.Len()-2, last)
	firstRefused(t, w, api.ErrRange, w.Len(), last)
	firstRefused(t, w, api.ErrRange, -1, last)
}

func TestNilWorld(t *testing.T) { // P9.1 to P9.3, R6: ahead of every other error
	ids := []api.MethodID{{}, {Index: 1}, {Class: 3}, {Class: 3, Index: 3}}
	for _, odd := range oddNumbers {
		ids = append(ids, api.MethodID{Class: odd}, api.MethodID{Index: odd}, api.MethodID{Class: odd, Index: odd})
	}
	for _, c := range ids {
		allRefused(t, nil, api.ErrArg, c)
		for _, a := range ids {
			refused(t, nil, api.ErrArg, c, a)
			firstRefused(t, nil, api.ErrArg, c.Class, a)
		}
	}
}

// TestWorldThatNewDidNotMake: it has no class, so no number is one.
func TestWorldThatNewDidNotMake(t *testing.T) { // P0.1
	w := &hier.World{}
	for _, id := range append([]int{0, 1}, oddNumbers...) {
		of := api.MethodID{Class: id}
		refused(t, w, api.ErrRange, of, of)
		firstRefused(t, w, api.ErrRange, id, of)
		allRefused(t, w, api.ErrRange, of)
	}
}

func TestExamples(t *testing.T) { // the chapter's examples
	w := worldOf(t, m("p/A", "Object", 0), m("q/B", "p/A", api.Public), m("p/C", "q/B", api.Public), m("q/D", "p/C", 0))
	holds(t, w, "q/B", "p/A", false, false)
	holds(t, w, "p/C", "p/A", true, true)
	holds(t, w, "p/C", "q/B", true, true)
	holds(t, w, "q/D", "p/A", false, true)
	holds(t, w, "q/D", "p/C", true, true)
	firstIs(t, w, "q/D", "p/A", "q/D")
	firstIs(t, w, "q/B", "p/A", "p/A")
	firstIs(t, w, "q/B", "q/D", "")
	allAre(t, w, "p/A", "p/A", "p/C", "q/D")

	w = worldOf(t, m("p/A", "Object", 0), m("p/B", "p/A", api.Public), m("q/C", "p/B", api.Public))
	holds(t, w, "q/C", "p/A", false, true)

	w = worldOf(t, class("A", "Object", method("m", api.Private), method("s", api.Static), method("<init>", 0)), class("B", "A", method("m", api.Public), method("s", api.Public), method("<init>", 0)))
	allAre(t, w, "A.m", "A.m")
	allAre(t, w, "A.s")
	allAre(t, w, "A.<init>", "A.<init>")

	w = worldOf(t, iface("I", method("m", api.Public)), m("S", "Object", api.Public), of(class("A", "S"), "I"), of(m("A2", "S", api.Public), "I"))
	holds(t, w, "S", "I", false, false)
	holds(t, w, "A2", "I", true, true)
}
