package resolve

import (
	"fmt"
	"math"
	"slices"
	"strings"
	"testing"

	"arbiter/api"
	"arbiter/hier"
)

// The flags of methods, as they are written most often.
const (
	normal   = api.Public
	abstract = api.Public | api.AbstractFl
	static   = api.Public | api.Static
)

// oddNumbers are numbers of no class of any world.
var oddNumbers = []int{-1, math.MinInt, math.MaxInt, -2, api.MaxClasses, api.MaxClasses + 1, 1 << 32, -1 << 32, 1<<32 + 1}

// method has the descriptor ()V, unless its name brings one.
func method(name string, flags int) api.Method {
	m := api.Method{Name: name, Desc: "()V", Flags: flags}
	if at := strings.Index(name, "("); at >= 0 {
		m.Name, m.Desc = name[:at], name[at:]
	}
	if flags&api.AbstractFl == 0 {
		m.Locals, m.Code = 4, []api.Inst{{Op: api.Return}}
	}
	return m
}

func class(name, super string, methods ...api.Method) api.Class {
	return api.Class{Name: name, Super: super, Flags: api.Public | api.Super | api.AbstractFl, Methods: methods}
}

func iface(name string, methods ...api.Method) api.Class {
	return api.Class{Name: name, Super: "Object", Flags: api.Public | api.Interface | api.AbstractFl, Methods: methods}
}

// cm and im make a class and an interface with a method m.
func cm(name, super string, flags int) api.Class {
	return class(name, super, method("m", flags))
}

func im(name string, flags int) api.Class {
	return iface(name, method("m", flags))
}

// of names interfaces, shut takes Public away, by takes another Loader.
func of(c api.Class, ifaces ...string) api.Class {
	c.Ifaces = ifaces
	return c
}

func shut(c api.Class) api.Class {
	c.Flags &^= api.Public
	return c
}

func by(loader int, c api.Class) api.Class {
	c.Loader = loader
	return c
}

func list(classes ...api.Class) []api.Class {
	return classes
}

// show cuts what it shows, since texts may be long.
func show(things ...any) string {
	text := fmt.Sprintf("%#v", things)
	return text[:min(len(text), 300)]
}

func define(t *testing.T, w *hier.World, c api.Class) int {
	t.Helper()
	id, e := w.Define(c)
	if e != api.OK {
		t.Fatalf("Define(%s): %d", show(c), e)
	}
	return id
}

func worldOf(t *testing.T, classes ...api.Class) *hier.World {
	t.Helper()
	w := hier.New()
	for _, c := range classes {
		define(t, w, c)
	}
	return w
}

func number(t *testing.T, w *hier.World, name string) int {
	t.Helper()
	id, e := w.ByName(name)
	if e != api.OK {
		t.Fatalf("ByName(%s): %d", show(name), e)
	}
	return id
}

// ref cuts a reference's text, sound or not: p/A.m()V or p/I:m()V.
func ref(text string) api.Ref {
	at := strings.IndexAny(text, ".:")
	name, desc := text[at+1:], ""
	if end := strings.Index(name, "("); end >= 0 {
		name, desc = name[:end], name[end:]
	}
	return api.Ref{Iface: text[at] == ':', Class: text[:at], Name: name, Desc: desc}
}

// find finds the method that a text such as p/A.m()V says; the zero method, if it is empty.
func find(t *testing.T, w *hier.World, text string) api.MethodID {
	t.Helper()
	if text == "" {
		return api.MethodID{}
	}
	r := ref(text)
	id := number(t, w, r.Class)
	c, _ := w.Class(id)
	at := slices.IndexFunc(c.Methods, func(m api.Method) bool { return m.Name == r.Name && m.Desc == r.Desc })
	if at < 0 {
		t.Fatalf("no method %s", text)
	}
	return api.MethodID{Class: id, Index: at}
}

func classIs(t *testing.T, w *hier.World, d int, text string, want api.Type, err api.Errno) {
	t.Helper()
	if got, e := Class(w, d, text); got != want || e != err {
		t.Errorf("Class(%d, %s) = %s, %d, want %s, %d", d, show(text), show(got), e, show(want), err)
	}
}

func lookupIs(t *testing.T, w *hier.World, c int, name, desc string, want api.MethodID, err api.Errno) {
	t.Helper()
	if got, e := Lookup(w, c, name, desc); got != want || e != err {
		t.Errorf("Lookup(%d, %s) = %v, %d, want %v, %d", c, show(name, desc), got, e, want, err)
	}
}

func lookupIfaceIs(t *testing.T, w *hier.World, c int, name, desc string, want api.MethodID, err api.Errno) {
	t.Helper()
	if got, e := LookupIface(w, c, name, desc); got != want || e != err {
		t.Errorf("LookupIface(%d, %s) = %v, %d, want %v, %d", c, show(name, desc), got, e, want, err)
	}
}

func methodIs(t *testing.T, w *hier.World, d int, r api.Ref, want api.MethodID, err api.Errno) {
	t.Helper()
	if got, e := Method(w, d, r); got != want || e != err {
		t.Errorf("Method(%d, %s) = %v, %d, want %v, %d", d, show(r), got, e, want, err)
	}
}

// resolves asks Method from the class of a name, all by texts.
func resolves(t *testing.T, w *hier.World, from, text, want string, err api.Errno) {
	t.Helper()
	if got, e := Method(w, number(t, w, from), ref(text)); got != find(t, w, want) || e != err {
		t.Errorf("Method(%s) from %s = %v, %d, want %s, %d", text, from, got, e, want, err)
	}
}

// refused asks that all calls answer this error at this number, and nothing beside it.
func refused(t *testing.T, w *hier.World, want api.Errno, id int) {
	t.Helper()
	for _, text := range []string{"Object", "[I", "no/Such", "", "\xff"} {
		classIs(t, w, id, text, api.Type{}, want)
	}
	for _, name := range []string{"id", "none", ""} {
		lookupIs(t, w, id, name, "()I", api.MethodID{}, want)
		lookupIfaceIs(t, w, id, name, "()I", api.MethodID{}, want)
	}
	for _, text := range []string{"Object.id()I", "Object:id()I", "Cloneable.id()I", "Cloneable:id()I", "[I.id()I", "[I:id()I", "no/Such.id()I", ".", "Object.", "Object.id"} {
		methodIs(t, w, id, ref(text), api.MethodID{}, want)
	}
}

// townClasses are of several packages and loaders, open and shut.
func townClasses() []api.Class {
	return list(
		class("p/A", "Object"), shut(class("p/E", "Object")), shut(iface("p/S")), iface("p/I"), by(1, class("p/Far", "Object")), by(1, shut(class("p/FarShut", "Object"))),
		class("q/B", "p/A"), class("I", "Object"), shut(class("Bare", "Object")), class("Plain", "Object"), class("p/q/C", "Object"), shut(class(strings.Repeat("n", 58)+"/x", "Object")),
	)
}

func TestClass(t *testing.T) { // P11.1
	w := worldOf(t, townClasses()...)
	long := strings.Repeat("n", 58) + "/x"
	deep := strings.Repeat("[", api.MaxDims)
	for _, c := range []struct {
		from, text string
		want       api.Type
		err        api.Errno
	}{
		{"q/B", "Object", api.Type{Name: "Object"}, api.OK},
		{"Object", "Object", api.Type{Name: "Object"}, api.OK},
		{"q/B", "Cloneable", api.Type{Name: "Cloneable"}, api.OK},
		{"q/B", "p/A", api.Type{Name: "p/A"}, api.OK},
		{"q/B", "p/I", api.Type{Name: "p/I"}, api.OK},
		{"p/I", "p/A", api.Type{Name: "p/A"}, api.OK},
		{"q/B", "I", api.Type{Name: "I"}, api.OK},
		{"q/B", "[I", api.Type{Dims: 1}, api.OK},
		{"q/B", "[LI;", api.Type{Dims: 1, Name: "I"}, api.OK},
		{"q/B", "[[I", api.Type{Dims: 2}, api.OK},
		{"q/B", deep + "I", api.Type{Dims: 255}, api.OK},
		{"q/B", "[Lp/A;", api.Type{Dims: 1, Name: "p/A"}, api.OK},
		{"q/B", "[[Lp/I;", api.Type{Dims: 2, Name: "p/I"}, api.OK},
		{"q/B", deep + "Lp/A;", api.Type{Dims: 255, Name: "p/A"}, api.OK},
		{"q/B", "no/Such", api.Type{}, api.NoClassDef},
		{"q/B", "[Lno/Such;", api.Type{}, api.NoClassDef},
		{"q/B", deep + "Lno/Such;", api.Type{}, api.NoClassDef},
		{"q/B", "object", api.Type{}, api.NoClassDef},
		{"q/B", "A", api.Type{}, api.NoClassDef},
		{"q/B", "B", api.Type{}, api.NoClassDef},
		{"q/B", "p", api.Type{}, api.NoClassDef},
		{"q/B", "V", api.Type{}, api.NoClassDef},
		{"q/B", "L", api.Type{}, api.NoClassDef},
		{"q/B", strings.Repeat("n", 60), api.Type{}, api.NoClassDef},
		{"p/A", "p/E", api.Type{Name: "p/E"}, api.OK},
		{"p/A", "[Lp/E;", api.Type{Dims: 1, Name: "p/E"}, api.OK},
		{"p/A", "p/S", api.Type{Name: "p/S"}, api.OK},
		{"p/E", "p/E", api.Type{Name: "p/E"}, api.OK},
		{"q/B", "p/E", api.Type{}, api.IllegalAccess},
		{"q/B", "[Lp/E;", api.Type{}, api.IllegalAccess},
		{"q/B", deep + "Lp/E;", api.Type{}, api.IllegalAccess},
		{"q/B", "p/S", api.Type{}, api.IllegalAccess},
		{"q/B", "[Lp/S;", api.Type{}, api.IllegalAccess},
		{"p/q/C", "p/E", api.Type{}, api.IllegalAccess},
		{"Plain", "p/E", api.Type{}, api.IllegalAccess},
		{"Object", "p/E", api.Type{}, api.IllegalAccess},
		{"p/Far", "p/E", api.Type{}, api.IllegalAccess},
		{"p/Far", "[Lp/E;", api.Type{}, api.IllegalAccess},
		{"p/Far", "p/FarShut", api.Type{Name: "p/FarShut"}, api.OK},
		{"p/A", "p/FarShut", api.Type{}, api.IllegalAccess},
		{"p/A", "p/Far", api.Type{Name: "p/Far"}, api.OK},
		{"Plain", "Bare", api.Type{Name: "Bare"}, api.OK},
		{"Object", "[LBare;", api.Type{Dims: 1, Name: "Bare"}, api.OK},
		{"p/A", "Bare", api.Type{}, api.IllegalAccess},
		{long, long, api.Type{Name: long}, api.OK},
		{"Plain", long, api.Type{}, api.IllegalAccess},
	} {
		if got, e := Class(w, number(t, w, c.from), c.text); got != c.want || e != c.err {
			t.Errorf("Class(%s, %s) = %s, %d, want %s, %d", c.from, show(c.text), show(got), e, show(c.want), c.err)
		}
	}
}

// noReferences are texts that name no class and no array type.
func noReferences() []string {
	return []string{
		"", " ", "[", "[[", "V[", "[V", "[Z", "I[", "I]", "[II", "LObject;", "Lp/A;", "[LObject", "[Object", "[Object;", "[L;", "[LObject;;", "[LObject;I", ";", "L;",
		"p/", "/A", "p//A", "/", "p/1", "1", "p.A", "p/A ", " p/A", "p/A\n", "p/A\x00", "\x00", "\xff", "\xc3\x28", "é", "Obj\xe9ct", "Object;", "-", "[-1", "<init>", "[L<init>;", "()V", "p/A.m()V",
		"[Lp/;", "[L/A;", "[Lp//A;", "[ I", "[LObject; ", "[[LObject", strings.Repeat("n", 61), "[L" + strings.Repeat("n", 61) + ";",
		strings.Repeat("[", 255), strings.Repeat("[", 256), strings.Repeat("[", 256) + "I", strings.Repeat("[", 256) + "LObject;", strings.Repeat("[", 256) + "X",
		strings.Repeat("[", 1999) + "I", strings.Repeat("[", 2000) + "I", strings.Repeat("n", 2000), strings.Repeat("n", 2001), strings.Repeat("\xff", 100000),
	}
}

func TestTextsThatAreNoReferences(t *testing.T) { // P11.1: ErrText, whatever ParseRef says; P11.4: ErrForm
	w := worldOf(t, townClasses()...)
	for _, text := range noReferences() {
		for d := range w.Len() {
			classIs(t, w, d, text, api.Type{}, api.ErrText)
			for _, asIface := range []bool{false, true} {
				methodIs(t, w, d, api.Ref{Iface: asIface, Class: text, Name: "id", Desc: "()I"}, api.MethodID{}, api.ErrForm)
			}
		}
		classIs(t, w, -1, text, api.Type{}, api.ErrRange)
		classIs(t, w, w.Len(), text, api.Type{}, api.ErrRange)
		classIs(t, nil, 0, text, api.Type{}, api.ErrArg)
	}
}

// lookupCase says by texts what a lookup in the class or interface C answers of the method m ()V, if none other is named.
type lookupCase struct {
	what    string
	classes []api.Class
	name    string
	want    string
	err     api.Errno
}

func (c lookupCase) asked() api.Method {
	if c.name == "" {
		return method("m", 0)
	}
	return method(c.name, 0)
}

func TestLookup(t *testing.T) { // P11.2
	for _, c := range []lookupCase{
		{what: "its own", classes: list(cm("C", "Object", normal)), want: "C.m()V"},
		{what: "its own, private", classes: list(cm("C", "Object", api.Private)), want: "C.m()V"},
		{what: "its own, protected", classes: list(cm("C", "Object", api.Protected)), want: "C.m()V"},
		{what: "its own, without a word", classes: list(cm("C", "Object", 0)), want: "C.m()V"},
		{what: "its own, static", classes: list(cm("C", "Object", static)), want: "C.m()V"},
		{what: "its own, private and static", classes: list(cm("C", "Object", api.Private|api.Static)), want: "C.m()V"},
		{what: "its own, abstract", classes: list(cm("C", "Object", abstract)), want: "C.m()V"},
		{what: "the second of its own", classes: list(class("C", "Object", method("n", normal), method("m", normal))), want: "C.m()V"},
		{what: "its own ahead of one above", classes: list(cm("A", "Object", normal), cm("C", "A", api.Private)), want: "C.m()V"},
		{what: "of the superclass", classes: list(cm("A", "Object", normal), class("C", "A")), want: "A.m()V"},
		{what: "of the superclass, private", classes: list(cm("A", "Object", api.Private), class("C", "A")), want: "A.m()V"},
		{what: "of the superclass, static", classes: list(cm("A", "Object", static), class("C", "A")), want: "A.m()V"},
		{what: "of the superclass, abstract", classes: list(cm("A", "Object", abstract), class("C", "A")), want: "A.m()V"},
		{what: "of another package, without a word", classes: list(cm("p/A", "Object", 0), class("C", "p/A")), want: "p/A.m()V"},
		{what: "the nearest of the chain", classes: list(cm("A", "Object", normal), cm("B", "A", api.Private), class("D", "B"), class("C", "D")), want: "B.m()V"},
		{what: "far up the chain", classes: list(cm("A", "Object", normal), class("B", "A", method("m(I)V", normal)), class("D", "B", method("n", normal)), class("C", "D")), want: "A.m()V"},
		{what: "not below it", classes: list(class("C", "Object"), cm("D", "C", normal)), err: api.NoSuchMethod},
		{what: "not beside it", classes: list(class("A", "Object"), cm("B", "A", normal), class("C", "A")), err: api.NoSuchMethod},
		{what: "Object's", classes: list(class("C", "Object")), name: "id()I", want: "Object.id()I"},
		{what: "Object's protected one", classes: list(class("C", "Object")), name: "kin()LObject;", want: "Object.kin()LObject;"},
		{what: "Object's <init>", classes: list(class("C", "Object")), name: "<init>", want: "Object.<init>()V"},
		{what: "its own <init>", classes: list(class("C", "Object", method("<init>", api.Private))), name: "<init>", want: "C.<init>()V"},
		{what: "Object's ahead of an interface's", classes: list(iface("I", method("id()I", normal)), of(class("C", "Object"), "I")), name: "id()I", want: "Object.id()I"},
		{what: "Object's protected one ahead of an interface's", classes: list(iface("I", method("kin()LObject;", normal)), of(class("C", "Object"), "I")), name: "kin()LObject;", want: "Object.kin()LObject;"},
		{what: "the chain's ahead of a nearer interface's", classes: list(cm("A", "Object", normal), im("I", normal), of(class("C", "A"), "I")), want: "A.m()V"},
		{what: "the chain's abstract one ahead of an interface's", classes: list(cm("A", "Object", abstract), im("I", normal), of(class("C", "A"), "I")), want: "A.m()V"},
		{what: "the chain's private one ahead of an interface's", classes: list(cm("A", "Object", api.Private), im("I", normal), of(class("C", "A"), "I")), want: "A.m()V"},
		{what: "the chain's static one ahead of an interface's", classes: list(cm("A", "Object", static), im("I", normal), of(class("C", "A"), "I")), want: "A.m()V"},
		{what: "its own ahead of several interfaces'", classes: list(im("I", normal), im("J", normal), of(cm("C", "Object", api.Private), "I", "J")), want: "C.m()V"},
		{what: "one of an interface", classes: list(im("I", normal), of(class("C", "Object"), "I")), want: "I.m()V"},
		{what: "one of the superclass's interface", classes: list(im("I", normal), of(class("A", "Object"), "I"), class("C", "A")), want: "I.m()V"},
		{what: "one of an interface above an interface", classes: list(im("I", normal), of(iface("J"), "I"), of(class("C", "Object"), "J")), want: "I.m()V"},
		{what: "one abstract", classes: list(im("I", abstract), of(class("C", "Object"), "I")), want: "I.m()V"},
		{what: "abstract ones alone: the first candidate", classes: list(im("I", abstract), im("J", abstract), of(class("C", "Object"), "J", "I")), want: "J.m()V"},
		{what: "the only one that is not abstract, behind", classes: list(im("I", abstract), im("J", normal), of(class("C", "Object"), "I", "J")), want: "J.m()V"},
		{what: "the only one that is not abstract, ahead", classes: list(im("I", normal), im("J", abstract), of(class("C", "Object"), "I", "J")), want: "I.m()V"},
		{what: "the most special one", classes: list(im("I", normal), of(im("J", normal), "I"), of(class("C", "Object"), "I", "J")), want: "J.m()V"},
		{what: "an abstract one below: the first candidate", classes: list(im("I", normal), of(im("J", abstract), "I"), of(class("C", "Object"), "J")), want: "I.m()V"},
		{what: "several: the first candidate", classes: list(im("I", normal), im("J", normal), of(class("C", "Object"), "J", "I")), want: "J.m()V"},
		{what: "several: the superclass's is the first", classes: list(im("I", normal), im("J", normal), of(class("A", "Object"), "J"), of(class("C", "A"), "I")), want: "J.m()V"},
		{what: "several: the first candidate, though not the most special", classes: list(im("I", normal), of(im("J", normal), "I"), im("K", normal), of(class("C", "Object"), "J", "K")), want: "I.m()V"},
		{what: "several: an abstract one is the first", classes: list(im("I", abstract), im("J", normal), im("K", normal), of(class("C", "Object"), "I", "J", "K")), want: "I.m()V"},
		{what: "a private one of an interface", classes: list(im("I", api.Private), of(class("C", "Object"), "I")), err: api.NoSuchMethod},
		{what: "a static one of an interface", classes: list(im("I", static), of(class("C", "Object"), "I")), err: api.NoSuchMethod},
		{what: "private and static ones beside one", classes: list(im("I", api.Private), im("J", static), im("K", abstract), of(class("C", "Object"), "I", "J", "K")), want: "K.m()V"},
		{what: "none at all", classes: list(class("C", "Object")), err: api.NoSuchMethod},
		{what: "none, with interfaces", classes: list(iface("I", method("n", normal)), of(class("C", "Object"), "I", "Cloneable")), err: api.NoSuchMethod},
		{what: "another Name", classes: list(class("C", "Object", method("n", normal), method("mm", normal), method("M", normal))), err: api.NoSuchMethod},
		{what: "another Desc", classes: list(class("C", "Object", method("m(I)V", normal), method("m()I", abstract), method("m()LObject;", abstract))), err: api.NoSuchMethod},
		{what: "another Desc in the chain", classes: list(cm("A", "Object", normal), class("C", "A", method("m(I)V", normal))), want: "A.m()V"},
		{what: "a Desc with an argument", classes: list(cm("A", "Object", normal), class("C", "A", method("m(I[LC;)V", normal))), name: "m(I[LC;)V", want: "C.m(I[LC;)V"},
	} {
		t.Run(c.what, func(t *testing.T) {
			w, asked := worldOf(t, c.classes...), c.asked()
			lookupIs(t, w, number(t, w, "C"), asked.Name, asked.Desc, find(t, w, c.want), c.err)
			lookupIfaceIs(t, w, number(t, w, "C"), asked.Name, asked.Desc, api.MethodID{}, api.Incompatible)
		})
	}
}

func TestLookupIface(t *testing.T) { // P11.3
	for _, c := range []lookupCase{
		{what: "its own", classes: list(im("C", normal)), want: "C.m()V"},
		{what: "its own, abstract", classes: list(im("C", abstract)), want: "C.m()V"},
		{what: "its own, private", classes: list(im("C", api.Private)), want: "C.m()V"},
		{what: "its own, static", classes: list(im("C", static)), want: "C.m()V"},
		{what: "its own, private and static", classes: list(im("C", api.Private|api.Static)), want: "C.m()V"},
		{what: "the second of its own", classes: list(iface("C", method("n", normal), method("m", abstract))), want: "C.m()V"},
		{what: "its own ahead of one above", classes: list(im("I", normal), of(im("C", api.Private), "I")), want: "C.m()V"},
		{what: "its own ahead of Object's", classes: list(iface("C", method("id()I", abstract))), name: "id()I", want: "C.id()I"},
		{what: "its own, private, ahead of Object's", classes: list(iface("C", method("id()I", api.Private))), name: "id()I", want: "C.id()I"},
		{what: "its own, as Object has a protected one", classes: list(iface("C", method("kin()LObject;", abstract))), name: "kin()LObject;", want: "C.kin()LObject;"},
		{what: "Object's", classes: list(iface("C")), name: "id()I", want: "Object.id()I"},
		{what: "Object's ahead of an interface's", classes: list(iface("I", method("id()I", normal)), of(iface("C"), "I")), name: "id()I", want: "Object.id()I"},
		{what: "Object's ahead of several interfaces'", classes: list(iface("I", method("id()I", normal)), iface("J", method("id()I", abstract)), of(iface("C"), "I", "J")), name: "id()I", want: "Object.id()I"},
		{what: "Object's <init>, which is public", classes: list(iface("C")), name: "<init>", want: "Object.<init>()V"},
		{what: "Object's that is not public", classes: list(iface("C")), name: "kin()LObject;", err: api.NoSuchMethod},
		{what: "an interface's, as Object's is not public", classes: list(iface("I", method("kin()LObject;", normal)), of(iface("C"), "I")), name: "kin()LObject;", want: "I.kin()LObject;"},
		{what: "an interface's abstract one, as Object's is not public", classes: list(iface("I", method("kin()LObject;", abstract)), of(iface("C"), "I")), name: "kin()LObject;", want: "I.kin()LObject;"},
		{what: "Object's Name, another Desc", classes: list(iface("C")), name: "id()V", err: api.NoSuchMethod},
		{what: "one above", classes: list(im("I", normal), of(iface("C"), "I")), want: "I.m()V"},
		{what: "one far above", classes: list(im("I", normal), of(iface("J"), "I"), of(iface("K"), "J"), of(iface("C"), "K")), want: "I.m()V"},
		{what: "one abstract", classes: list(im("I", abstract), of(iface("C"), "I")), want: "I.m()V"},
		{what: "abstract ones alone: the first candidate", classes: list(im("I", abstract), im("J", abstract), of(iface("C"), "J", "I")), want: "J.m()V"},
		{what: "the only one that is not abstract, behind", classes: list(im("I", abstract), im("J", normal), of(iface("C"), "I", "J")), want: "J.m()V"},
		{what: "the only one that is not abstract, ahead", classes: list(im("I", normal), im("J", abstract), of(iface("C"), "I", "J")), want: "I.m()V"},
		{what: "the most special one", classes: list(im("I", normal), of(im("J", normal), "I"), of(iface("C"), "I", "J")), want: "J.m()V"},
		{what: "an abstract one below: the first candidate", classes: list(im("I", normal), of(im("J", abstract), "I"), of(iface("C"), "J")), want: "I.m()V"},
		{what: "several: the first candidate", classes: list(im("I", normal), im("J", normal), of(iface("C"), "J", "I")), want: "J.m()V"},
		{what: "several: the first candidate, though not the most special", classes: list(im("I", normal), of(im("J", normal), "I"), im("K", normal), of(iface("C"), "J", "K")), want: "I.m()V"},
		{what: "a private one above", classes: list(im("I", api.Private), of(iface("C"), "I")), err: api.NoSuchMethod},
		{what: "a static one above", classes: list(im("I", static), of(iface("C"), "I")), err: api.NoSuchMethod},
		{what: "one above a private one", classes: list(im("I", normal), of(im("J", api.Private), "I"), of(iface("C"), "J")), want: "I.m()V"},
		{what: "not below it", classes: list(iface("C"), of(im("I", normal), "C"), of(cm("A", "Object", normal), "C")), err: api.NoSuchMethod},
		{what: "none at all", classes: list(iface("C")), err: api.NoSuchMethod},
		{what: "none, with interfaces", classes: list(iface("I", method("n", normal)), of(iface("C"), "I", "Cloneable")), err: api.NoSuchMethod},
		{what: "another Name", classes: list(iface("C", method("n", normal), method("mm", abstract), method("M", normal))), err: api.NoSuchMethod},
		{what: "another Desc", classes: list(iface("C", method("m(I)V", normal), method("m()I", abstract))), err: api.NoSuchMethod},
	} {
		t.Run(c.what, func(t *testing.T) {
			w, asked := worldOf(t, c.classes...), c.asked()
			lookupIfaceIs(t, w, number(t, w, "C"), asked.Name, asked.Desc, find(t, w, c.want), c.err)
			lookupIs(t, w, number(t, w, "C"), asked.Name, asked.Desc, api.MethodID{}, api.Incompatible)
		})
	}
}

func TestTheFirstClasses(t *testing.T) { // P11.2, P11.3
	w := hier.New()
	for index, m := range []api.Method{method("<init>", 0), method("id()I", 0), method("kin()LObject;", 0)} {
		lookupIs(t, w, 0, m.Name, m.Desc, api.MethodID{Index: index}, api.OK)
		lookupIfaceIs(t, w, 0, m.Name, m.Desc, api.MethodID{}, api.Incompatible)
		for id := 1; id <= 2; id++ {
			lookupIs(t, w, id, m.Name, m.Desc, api.MethodID{}, api.Incompatible)
			if index < 2 {
				lookupIfaceIs(t, w, id, m.Name, m.Desc, api.MethodID{Index: index}, api.OK)
			} else {
				lookupIfaceIs(t, w, id, m.Name, m.Desc, api.MethodID{}, api.NoSuchMethod)
			}
		}
	}
	lookupIs(t, w, 0, "m", "()V", api.MethodID{}, api.NoSuchMethod)
	lookupIfaceIs(t, w, 1, "m", "()V", api.MethodID{}, api.NoSuchMethod)
}

func TestTextsThatAreNoNames(t *testing.T) { // P11.2, P11.3, R1: any texts
	w := worldOf(t, im("I", normal), of(im("J", abstract), "I"), of(cm("C", "Object", normal), "J"), class("D", "C"))
	for _, c := range [][2]string{
		{"", ""}, {"m", ""}, {"", "()V"}, {"", "m()V"}, {"m()V", ""}, {"m(", ")V"}, {"m()", "V"}, {"m\x00", "()V"}, {"m", "()V\x00"}, {"\x00m", "()V"},
		{"m ", "()V"}, {"m", " ()V"}, {"m", "() V"}, {"m\n", "()V"}, {"\xff\xfe", "\x80"}, {"<clinit>", "()V"}, {"()V", "m"}, {"I.m", "()V"}, {"C.m", "()V"},
		{"ｍ", "()V"}, {"m", "(V)V"}, {"m", "()"}, {strings.Repeat("m", 5000), "()V"}, {"m", strings.Repeat("()V", 5000)},
	} {
		for id := range w.Len() {
			asClass, asIface := api.NoSuchMethod, api.Incompatible
			if w.IsIface(id) {
				asClass, asIface = asIface, asClass
			}
			lookupIs(t, w, id, c[0], c[1], api.MethodID{}, asClass)
			lookupIfaceIs(t, w, id, c[0], c[1], api.MethodID{}, asIface)
		}
		for _, odd := range []int{-1, w.Len()} {
			lookupIs(t, w, odd, c[0], c[1], api.MethodID{}, api.ErrRange)
			lookupIfaceIs(t, w, odd, c[0], c[1], api.MethodID{}, api.ErrRange)
		}
		lookupIs(t, nil, 0, c[0], c[1], api.MethodID{}, api.ErrArg)
		lookupIfaceIs(t, nil, 1, c[0], c[1], api.MethodID{}, api.ErrArg)
	}
}

// cityClasses have methods of each way of access, in classes and interfaces that others see from above, below and beside.
func cityClasses() []api.Class {
	kinds := []api.Method{
		method("pub", normal), method("pro", api.Protected), method("bare", 0), method("priv", api.Private),
		method("pubs", static), method("pros", api.Protected|api.Static), method("bares", api.Static), method("privs", api.Private|api.Static),
	}
	return list(
		class("p/A", "Object", kinds...), class("p/D", "Object"), by(1, class("p/Far", "Object")),
		class("q/B", "p/A"), class("q/C", "q/B"), class("q/H", "p/A"), class("q/O", "Object"), class("p/Low", "q/B"),
		shut(class("p/E", "p/A", method("m", normal))), shut(iface("p/S", method("m", normal))),
		iface("p/I", method("d", normal), method("a", abstract), method("priv", api.Private), method("pubs", static), method("one", abstract), method("some", normal)),
		iface("p/J", method("one", normal), method("some", normal)),
		of(class("q/N", "Object"), "p/I", "p/J"), of(iface("q/K"), "p/I", "p/J"), of(class("q/T", "Object"), "p/I"),
		of(class("p/Via", "Object"), "p/S"),
	)
}

func TestMethod(t *testing.T) { // P11.4: what is looked up
	w := worldOf(t, cityClasses()...)
	for _, c := range []struct {
		text, want string
		err        api.Errno
	}{
		{"p/A.pub()V", "p/A.pub()V", 0},
		{"q/B.pub()V", "p/A.pub()V", 0},
		{"q/C.pub()V", "p/A.pub()V", 0},
		{"q/C.pubs()V", "p/A.pubs()V", 0},
		{"q/O.id()I", "Object.id()I", 0},
		{"Object.id()I", "Object.id()I", 0},
		{"q/O.<init>()V", "Object.<init>()V", 0},
		{"q/N.d()V", "p/I.d()V", 0},
		{"q/N.a()V", "p/I.a()V", 0},
		{"q/N.one()V", "p/J.one()V", 0},
		{"q/N.some()V", "p/I.some()V", 0},
		{"q/N.priv()V", "", api.NoSuchMethod},
		{"q/N.pubs()V", "", api.NoSuchMethod},
		{"q/N.none()V", "", api.NoSuchMethod},
		{"q/O.pub()V", "", api.NoSuchMethod},
		{"q/O.<init>()I", "", api.NoSuchMethod},
		{"p/A.pub(I)V", "", api.NoSuchMethod},
		{"p/I:d()V", "p/I.d()V", 0},
		{"p/I:a()V", "p/I.a()V", 0},
		{"p/I:pubs()V", "p/I.pubs()V", 0},
		{"q/K:d()V", "p/I.d()V", 0},
		{"q/K:a()V", "p/I.a()V", 0},
		{"q/K:one()V", "p/J.one()V", 0},
		{"q/K:some()V", "p/I.some()V", 0},
		{"q/K:priv()V", "", api.NoSuchMethod},
		{"q/K:pubs()V", "", api.NoSuchMethod},
		{"q/K:none()V", "", api.NoSuchMethod},
		{"q/K:id()I", "Object.id()I", 0},
		{"Cloneable:id()I", "Object.id()I", 0},
		{"q/K:kin()LObject;", "", api.NoSuchMethod},
		{"q/K:<init>()V", "Object.<init>()V", 0},
		{"q/K.d()V", "", api.Incompatible},
		{"q/K.id()I", "", api.Incompatible},
		{"q/K.none()V", "", api.Incompatible},
		{"q/N:d()V", "", api.Incompatible},
		{"p/A:pub()V", "", api.Incompatible},
		{"q/O:id()I", "", api.Incompatible},
		{"Object:id()I", "", api.Incompatible},
		{"Object:none()V", "", api.Incompatible},
		{"no/Such.m()V", "", api.NoClassDef},
		{"no/Such:m()V", "", api.NoClassDef},
	} {
		resolves(t, w, "q/O", c.text, c.want, c.err)
	}
}

func TestMethodOfArrays(t *testing.T) { // P11.4: an array type's holder is Object
	w := worldOf(t, append(cityClasses(), class("I", "Object", method("mine", normal)))...)
	deep := strings.Repeat("[", api.MaxDims)
	for _, of := range []string{"[I", "[[I", deep + "I", "[LObject;", "[Lp/A;", "[[Lp/A;", deep + "Lp/A;", "[Lp/I;", "[LCloneable;", "[LI;"} {
		resolves(t, w, "q/O", of+".id()I", "Object.id()I", 0)
		resolves(t, w, "q/O", of+".<init>()V", "Object.<init>()V", 0)
		resolves(t, w, "q/O", of+".kin()LObject;", "Object.kin()LObject;", 0)
		resolves(t, w, "p/I", of+".kin()LObject;", "Object.kin()LObject;", 0)
		for _, none := range []string{"pub()V", "d()V", "mine()V", "none()V", "id()V"} {
			resolves(t, w, "q/O", of+"."+none, "", api.NoSuchMethod)
		}
		for _, any := range []string{"id()I", "kin()LObject;", "d()V", "none()V"} {
			resolves(t, w, "q/O", of+":"+any, "", api.Incompatible)
		}
	}
	for _, of := range []string{"[Lno/Such;", "[[Lno/Such;", deep + "Lno/Such;"} {
		resolves(t, w, "q/O", of+".id()I", "", api.NoClassDef)
		resolves(t, w, "q/O", of+":id()I", "", api.NoClassDef)
	}
	for _, of := range []string{"[Lp/E;", "[[Lp/E;", "[Lp/S;", deep + "Lp/S;"} {
		resolves(t, w, "q/O", of+".id()I", "", api.IllegalAccess)
		resolves(t, w, "q/O", of+":id()I", "", api.IllegalAccess)
		resolves(t, w, "p/D", of+".id()I", "Object.id()I", 0)
		resolves(t, w, "p/D", of+":id()I", "", api.Incompatible)
	}
}

func TestMethodThatIsOpen(t *testing.T) { // P11.4: the class that the reference names is what access asks for
	w := worldOf(t, cityClasses()...)
	for _, c := range []struct {
		from, through string
		open          string // which of the methods of p/A
	}{
		{"p/A", "p/A", "pub pro bare priv pubs pros bares privs"},
		{"p/A", "q/B", "pub pro bare priv pubs pros bares privs"},
		{"p/A", "p/Low", "pub pro bare priv pubs pros bares privs"},
		{"p/D", "p/A", "pub pro bare pubs pros bares"},
		{"p/D", "q/C", "pub pro bare pubs pros bares"},
		{"p/Far", "p/A", "pub pubs"},
		{"p/Far", "q/B", "pub pubs"},
		{"q/B", "p/A", "pub pro pubs pros"},
		{"q/B", "q/B", "pub pro pubs pros"},
		{"q/B", "q/C", "pub pro pubs pros"},
		{"q/B", "p/Low", "pub pro pubs pros"},
		{"q/B", "q/H", "pub pubs pros"},
		{"q/C", "q/B", "pub pro pubs pros"},
		{"q/C", "p/A", "pub pro pubs pros"},
		{"q/C", "p/Low", "pub pubs pros"},
		{"q/H", "q/B", "pub pubs pros"},
		{"p/Low", "q/B", "pub pro bare pubs pros bares"},
		{"p/Low", "q/H", "pub pro bare pubs pros bares"},
		{"q/O", "p/A", "pub pubs"},
		{"q/O", "q/B", "pub pubs"},
		{"p/I", "p/A", "pub pro bare pubs pros bares"},
		{"q/K", "q/B", "pub pubs"},
		{"Object", "p/A", "pub pubs"},
	} {
		for _, name := range strings.Fields("pub pro bare priv pubs pros bares privs") {
			want, err := "", api.IllegalAccess
			if slices.Contains(strings.Fields(c.open), name) {
				want, err = "p/A."+name+"()V", api.OK
			}
			resolves(t, w, c.from, c.through+"."+name+"()V", want, err)
		}
	}
}

func TestMethodOfInterfacesThatIsOpen(t *testing.T) { // P11.4
	w := worldOf(t, cityClasses()...)
	resolves(t, w, "p/I", "p/I:priv()V", "p/I.priv()V", 0)
	for _, from := range []string{"p/A", "p/J", "q/N", "q/K", "Object"} {
		resolves(t, w, from, "p/I:priv()V", "", api.IllegalAccess)
	}
	// An interface that is shut is met by way of a class that names it; its methods are public.
	resolves(t, w, "q/O", "p/Via.m()V", "p/S.m()V", 0)
	resolves(t, w, "q/O", "p/S:m()V", "", api.IllegalAccess)
	resolves(t, w, "p/D", "p/S:m()V", "p/S.m()V", 0)
	// Object's kin is protected: seen by all, as far as they name what is above or below them.
	resolves(t, w, "q/O", "q/O.kin()LObject;", "Object.kin()LObject;", 0)
	resolves(t, w, "q/O", "Object.kin()LObject;", "Object.kin()LObject;", 0)
	resolves(t, w, "q/B", "q/C.kin()LObject;", "Object.kin()LObject;", 0)
	resolves(t, w, "q/K", "Object.kin()LObject;", "Object.kin()LObject;", 0)
	resolves(t, w, "q/O", "p/A.kin()LObject;", "", api.IllegalAccess)
	resolves(t, w, "q/K", "q/N.kin()LObject;", "", api.IllegalAccess)
	resolves(t, w, "p/I", "q/N.kin()LObject;", "Object.kin()LObject;", 0) // q/N extends p/I
	resolves(t, w, "Object", "p/A.kin()LObject;", "Object.kin()LObject;", 0)
}

// TestAMethodMetFirst: a method that is not open is answered for, though one that is open stands behind it.
func TestAMethodMetFirst(t *testing.T) { // P11.4
	w := worldOf(t, cm("A", "Object", normal), cm("B", "A", api.Private), class("C", "B"), im("I", normal), of(class("D", "C"), "I"), of(im("J", api.Private), "I"))
	for _, text := range []string{"B.m()V", "C.m()V", "D.m()V"} {
		resolves(t, w, "C", text, "", api.IllegalAccess)
		resolves(t, w, "B", text, "B.m()V", 0)
	}
	resolves(t, w, "C", "A.m()V", "A.m()V", 0)
	resolves(t, w, "C", "J:m()V", "", api.IllegalAccess)
	resolves(t, w, "J", "J:m()V", "J.m()V", 0)
}

func TestReferencesThatAreNotSound(t *testing.T) { // P11.4: ErrForm
	w := worldOf(t, cityClasses()...)
	for _, r := range []api.Ref{
		{}, {Class: "p/A"}, {Class: "p/A", Name: "pub"}, {Class: "p/A", Desc: "()V"}, {Name: "pub", Desc: "()V"},
		{Class: "p/A", Name: "<clinit>", Desc: "()V"}, {Class: "p/A", Name: "a/b", Desc: "()V"}, {Class: "p/A", Name: "1", Desc: "()V"}, {Class: "p/A", Name: "pub ", Desc: "()V"},
		{Class: "p/A", Name: "pub\x00", Desc: "()V"}, {Class: "p/A", Name: "\xff", Desc: "()V"}, {Class: "p/A", Name: strings.Repeat("n", 61), Desc: "()V"},
		{Class: "p/A", Name: "pub", Desc: "()"}, {Class: "p/A", Name: "pub", Desc: "V"}, {Class: "p/A", Name: "pub", Desc: "(V)V"}, {Class: "p/A", Name: "pub", Desc: "()VV"}, {Class: "p/A", Name: "pub", Desc: " ()V"},
		{Class: "p/A", Name: "pub", Desc: "(" + strings.Repeat("I", 21) + ")V"}, {Class: "p/A", Name: "pub", Desc: "(" + strings.Repeat("[", 256) + "I)V"}, {Class: "p/A", Name: "pub", Desc: strings.Repeat("(", 100000)},
		{Class: "no/Such", Name: "", Desc: "()V"}, {Class: "no/Such", Name: "m", Desc: "()"}, {Class: "p/E", Name: "m", Desc: ""}, {Class: "[I", Name: "id", Desc: "I"}, {Class: "p/I", Name: "d()V", Desc: ""},
	} {
		for _, asIface := range []bool{false, true} {
			r.Iface = asIface
			for d := range w.Len() {
				methodIs(t, w, d, r, api.MethodID{}, api.ErrForm)
			}
			methodIs(t, w, -1, r, api.MethodID{}, api.ErrRange)
			methodIs(t, w, w.Len(), r, api.MethodID{}, api.ErrRange)
			methodIs(t, nil, 0, r, api.MethodID{}, api.ErrArg)
		}
	}
	for _, text := range []string{"p/A." + strings.Repeat("n", 60) + "()V", "p/A.pub(" + strings.Repeat("I", 20) + ")V", "p/A.pub(" + strings.Repeat("[", 255) + "I)V"} {
		resolves(t, w, "q/O", text, "", api.NoSuchMethod)
	}
}

// TestTheOrderOfErrors: of two conditions that hold at once the one that is named first is answered.
func TestTheOrderOfErrors(t *testing.T) { // R2; P11.1 to P11.4
	w := worldOf(t, cityClasses()...)
	beyond := w.Len()
	// A nil World ahead of all; a number ahead of a text.
	classIs(t, nil, -1, "x/", api.Type{}, api.ErrArg)
	classIs(t, w, -1, "x/", api.Type{}, api.ErrRange)
	classIs(t, w, beyond, "no/Such", api.Type{}, api.ErrRange)
	classIs(t, w, beyond, "p/E", api.Type{}, api.ErrRange)
	// A number ahead of what is no interface or one; that ahead of a method that is not there.
	for _, odd := range []int{-1, beyond} {
		lookupIs(t, w, odd, "none", "()V", api.MethodID{}, api.ErrRange)
		lookupIfaceIs(t, w, odd, "none", "()V", api.MethodID{}, api.ErrRange)
		methodIs(t, w, odd, api.Ref{}, api.MethodID{}, api.ErrRange)
		methodIs(t, w, odd, ref("no/Such.m()V"), api.MethodID{}, api.ErrRange)
	}
	lookupIs(t, w, number(t, w, "p/I"), "none", "()V", api.MethodID{}, api.Incompatible)
	lookupIfaceIs(t, w, number(t, w, "p/A"), "none", "()V", api.MethodID{}, api.Incompatible)
	for _, c := range []struct {
		what, text string
		err        api.Errno
	}{
		{"no name, and no such class", "no/Such.1()V", api.ErrForm},
		{"no name, and a class that is shut", "p/E.1()V", api.ErrForm},
		{"no descriptor, and an array by an interface's reference", "[I:id()", api.ErrForm},
		{"no such class, and an array by an interface's reference", "[Lno/Such;:id()I", api.NoClassDef},
		{"a class that is shut, and an array by an interface's reference", "[Lp/E;:id()I", api.IllegalAccess},
		{"a class that is shut, and no interface", "p/E:m()V", api.IllegalAccess},
		{"an interface that is shut, and no class", "p/S.m()V", api.IllegalAccess},
		{"a class that is shut, and no such method", "p/E.none()V", api.IllegalAccess},
		{"a class that is shut, and a method that is", "p/E.priv()V", api.IllegalAccess},
		{"an array by an interface's reference, and no such method", "[I:none()V", api.Incompatible},
		{"no interface, and no such method", "p/A:none()V", api.Incompatible},
		{"no interface, and a method that is not open", "p/A:priv()V", api.Incompatible},
		{"no class, and no such method", "p/I.none()V", api.Incompatible},
		{"no class, and a method that is not open", "p/I.priv()V", api.Incompatible},
		{"no such method", "p/A.none()V", api.NoSuchMethod},
		{"a method that is not open", "p/A.priv()V", api.IllegalAccess},
	} {
		t.Run(c.what, func(t *testing.T) { resolves(t, w, "q/O", c.text, "", c.err) })
	}
}

func TestNumbersThatAreNone(t *testing.T) { // P11.1 to P11.4: ErrRange
	w := worldOf(t, cityClasses()...)
	for _, odd := range append([]int{w.Len(), w.Len() + 1}, oddNumbers...) {
		refused(t, w, api.ErrRange, odd)
	}
	// The edges are numbers of classes.
	last := define(t, w, class("Last", "Object"))
	refused(t, w, api.ErrRange, last+1)
	for _, id := range []int{0, last} {
		classIs(t, w, id, "[Lp/A;", api.Type{Dims: 1, Name: "p/A"}, api.OK)
		lookupIs(t, w, id, "id", "()I", api.MethodID{Index: 1}, api.OK)
		methodIs(t, w, id, ref("Last.id()I"), api.MethodID{Index: 1}, api.OK)
	}
	lastIface := define(t, w, iface("LastIface"))
	lookupIfaceIs(t, w, lastIface, "id", "()I", api.MethodID{Index: 1}, api.OK)
	refused(t, hier.New(), api.ErrRange, 3)
}

func TestNilWorld(t *testing.T) { // R6
	for _, id := range append([]int{0, 1, 2, 3}, oddNumbers...) {
		refused(t, nil, api.ErrArg, id)
	}
}

// TestWorldThatNewDidNotMake: it has no class, so no number is one.
func TestWorldThatNewDidNotMake(t *testing.T) { // P0.1
	for _, id := range append([]int{0, 1}, oddNumbers...) {
		refused(t, &hier.World{}, api.ErrRange, id)
	}
}

func TestExamples(t *testing.T) { // the chapter's examples
	w := worldOf(t, class("A", "Object"), iface("I"))
	resolves(t, w, "A", "A.id()I", "Object.id()I", 0)
	resolves(t, w, "A", "A.m()V", "", api.NoSuchMethod)
	resolves(t, w, "A", "no/Such.m()V", "", api.NoClassDef)
	resolves(t, w, "A", "[LA;.id()I", "Object.id()I", 0)
	resolves(t, w, "A", "A:id()I", "", api.Incompatible)
	resolves(t, w, "A", "I:id()I", "Object.id()I", 0)
	resolves(t, w, "A", "I.id()I", "", api.Incompatible)
	resolves(t, w, "A", "I:kin()LObject;", "", api.NoSuchMethod)
	w = worldOf(t, cm("A", "Object", api.Private), class("B", "A"))
	resolves(t, w, "B", "B.m()V", "", api.IllegalAccess)
	resolves(t, w, "A", "B.m()V", "A.m()V", 0)
	w = worldOf(t, im("I", normal), im("J", normal), of(class("A", "Object"), "I", "J"))
	resolves(t, w, "A", "A.m()V", "I.m()V", 0)
}
