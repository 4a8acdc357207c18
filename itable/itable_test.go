package itable

import (
	"fmt"
	"math"
	"slices"
	"strings"
	"testing"

	"arbiter/api"
	"arbiter/choose"
	"arbiter/hier"
)

// objects is the table of Object, with which every other begins, if the class has no id of its own.
const objects = "id=id,id"

// The flags of methods, as they are written most often.
const (
	normal   = api.Public
	abstract = api.Public | api.AbstractFl
	static   = api.Public | api.Static
)

// oddNumbers are numbers of no class of any world, and of no method of any class.
var oddNumbers = []int{-1, math.MinInt, math.MaxInt, -2, api.MaxClasses, api.MaxClasses + 1, 1 << 32, -1 << 32, 1<<32 + 1}

// errors are the words of an entry's errors in the texts of tables.
var errors = map[string]api.Errno{"abstract": api.Abstract, "conflict": api.Incompatible, "hidden": api.IllegalAccess}

// method has the descriptor ()V, unless its name brings one.
func method(name string, flags int) api.Method {
	m := api.Method{Name: name, Desc: "()V", Flags: flags}
	if at := strings.Index(name, "("); at >= 0 {
		m.Name, m.Desc = name[:at], name[at:]
	}
	if flags&api.AbstractFl == 0 {
		m.Locals, m.Code = 4, []api.Inst{{Op: api.Return}}
	}
	return m
}

func class(name, super string, methods ...api.Method) api.Class {
	return api.Class{Name: name, Super: super, Flags: api.Public | api.Super | api.AbstractFl, Methods: methods}
}

func iface(name string, methods ...api.Method) api.Class {
	return api.Class{Name: name, Super: "Object", Flags: api.Public | api.Interface | api.AbstractFl, Methods: methods}
}

// cm and im make a class and an interface with one method m.
func cm(name, super string, flags int) api.Class {
	return class(name, super, method("m", flags))
}

func im(name string, flags int) api.Class {
	return iface(name, method("m", flags))
}

func by(loader int, c api.Class) api.Class {
	c.Loader = loader
	return c
}

func of(c api.Class, ifaces ...string) api.Class {
	c.Ifaces = ifaces
	return c
}

func list(classes ...api.Class) []api.Class {
	return classes
}

func define(t *testing.T, w *hier.World, c api.Class) int {
	t.Helper()
	id, e := w.Define(c)
	if e != api.OK {
		t.Fatalf("Define(%v): %d", c, e)
	}
	return id
}

func worldOf(t *testing.T, classes ...api.Class) *hier.World {
	t.Helper()
	w := hier.New()
	for _, c := range classes {
		define(t, w, c)
	}
	return w
}

func number(t *testing.T, w *hier.World, name string) int {
	t.Helper()
	id, e := w.ByName(name)
	if e != api.OK {
		t.Fatalf("ByName(%s): %d", name, e)
	}
	return id
}

// at finds a method by a text: p/A is p/A's m ()V, p/A.n p/A's n ()V, p/A.n()I p/A's n ()I; id and kin are Object's, and behind a point those of the class ahead.
func at(t *testing.T, w *hier.World, text string) api.MethodID {
	t.Helper()
	name, rest, there := strings.Cut(text, ".")
	switch {
	case !there && (text == "id" || text == "kin"):
		name, rest = "Object", text
	case !there:
		rest = "m"
	}
	switch rest {
	case "id":
		rest = "id()I"
	case "kin":
		rest = "kin()LObject;"
	}
	want, id := method(rest, 0), number(t, w, name)
	index, e := w.Find(id, want.Name, want.Desc)
	if e != api.OK {
		t.Fatalf("Find(%s): %d", text, e)
	}
	return api.MethodID{Class: id, Index: index}
}

// half reads what one kind of selection has: a method, or the word of an error.
func half(t *testing.T, w *hier.World, text string) (api.MethodID, api.Errno) {
	t.Helper()
	if e, there := errors[text]; there {
		return api.MethodID{}, e
	}
	return at(t, w, text), api.OK
}

// entries reads a table's text: Root=Method,Virtual of each entry, with blanks between.
func entries(t *testing.T, w *hier.World, text string) []api.Entry {
	t.Helper()
	var out []api.Entry
	for _, word := range strings.Fields(text) {
		root, both, _ := strings.Cut(word, "=")
		byInterface, byVirtual, _ := strings.Cut(both, ",")
		e := api.Entry{Root: at(t, w, root)}
		e.Method, e.Err = half(t, w, byInterface)
		e.Virtual, e.VirtualErr = half(t, w, byVirtual)
		out = append(out, e)
	}
	return out
}

// marksOf counts what Marks has to answer of a table.
func marksOf(table []api.Entry) [4]int {
	var out [4]int
	for place, err := range []api.Errno{api.OK, api.Abstract, api.Incompatible, api.IllegalAccess} {
		for _, e := range table {
			if e.Err == err {
				out[place]++
			}
		}
	}
	return out
}

func marksAre(t *testing.T, w *hier.World, id int, want [4]int, err api.Errno) {
	t.Helper()
	sound, abstract, conflicts, hidden, e := Marks(w, id)
	if got := [4]int{sound, abstract, conflicts, hidden}; got != want || e != err {
		t.Errorf("Marks(%d) = %v, %d, want %v, %d", id, got, e, want, err)
	}
}

// tableIs asks all calls for the table of a class, and holds it against choose.
func tableIs(t *testing.T, w *hier.World, id int, want []api.Entry) {
	t.Helper()
	var roots []api.MethodID
	for _, e := range want {
		roots = append(roots, e.Root)
		if got, err := Lookup(w, id, e.Root); got != e || err != api.OK {
			t.Errorf("Lookup(%d, %v) = %v, %d, want %v", id, e.Root, got, err, e)
		}
		if m, err := choose.Interface(w, id, e.Root); m != e.Method || err != e.Err {
			t.Errorf("Interface(%d, %v) = %v, %d, want %v", id, e.Root, m, err, e)
		}
		if m, err := choose.Virtual(w, id, e.Root); m != e.Virtual || err != e.VirtualErr {
			t.Errorf("Virtual(%d, %v) = %v, %d, want %v", id, e.Root, m, err, e)
		}
	}
	if got, e := Roots(w, id); !slices.Equal(got, roots) || e != api.OK {
		t.Errorf("Roots(%d) = %v, %d, want %v", id, got, e, roots)
	}
	if got, e := Build(w, id); !slices.Equal(got, want) || e != api.OK {
		t.Errorf("Build(%d) = %v, %d, want %v", id, got, e, want)
	}
	marksAre(t, w, id, marksOf(want), api.OK)
}

// built asks for the table of the class of a name.
func built(t *testing.T, w *hier.World, name, want string) {
	t.Helper()
	tableIs(t, w, number(t, w, name), entries(t, w, want))
}

func tableRefused(t *testing.T, w *hier.World, want api.Errno, id int) {
	t.Helper()
	if got, e := Roots(w, id); len(got) != 0 || e != want {
		t.Errorf("Roots(%d) = %v, %d, want %d", id, got, e, want)
	}
	if got, e := Build(w, id); len(got) != 0 || e != want {
		t.Errorf("Build(%d) = %v, %d, want %d", id, got, e, want)
	}
	marksAre(t, w, id, [4]int{}, want)
}

func lookupRefused(t *testing.T, w *hier.World, want api.Errno, r int, m api.MethodID) {
	t.Helper()
	if got, e := Lookup(w, r, m); got != (api.Entry{}) || e != want {
		t.Errorf("Lookup(%d, %v) = %v, %d, want %d", r, m, got, e, want)
	}
}

// notFound asks Lookup by texts for methods of which a class has no entry.
func notFound(t *testing.T, w *hier.World, want api.Errno, r string, asked ...string) {
	t.Helper()
	for _, text := range asked {
		lookupRefused(t, w, want, number(t, w, r), at(t, w, text))
	}
}

func TestExamples(t *testing.T) { // the chapter's examples
	w := worldOf(t)
	tableIs(t, w, 0, []api.Entry{{Root: api.MethodID{Index: 1}, Method: api.MethodID{Index: 1}, Virtual: api.MethodID{Index: 1}}})

	w = worldOf(t, im("I", abstract), of(cm("A", "Object", normal), "I"), of(class("B", "Object"), "I"))
	built(t, w, "A", "id=id,id I=A,A")
	built(t, w, "B", "id=id,id I=abstract,abstract")

	w = worldOf(t, im("I", abstract), of(cm("A", "Object", 0), "I"), of(cm("B", "Object", api.Private), "I"))
	built(t, w, "A", "id=id,id I=hidden,A")
	built(t, w, "B", "id=id,id I=hidden,abstract")

	w = worldOf(t, im("J", normal), im("K", normal), of(class("A", "Object"), "J", "K"))
	built(t, w, "A", "id=id,id J=conflict,conflict K=conflict,conflict")
}

// tableCase says the table of one class by its text.
type tableCase struct {
	what    string
	classes []api.Class
	of      string
	want    string
}

func checkTables(t *testing.T, cases []tableCase) {
	t.Helper()
	for _, c := range cases {
		t.Run(c.what, func(t *testing.T) {
			built(t, worldOf(t, c.classes...), c.of, c.want)
		})
	}
}

func TestRootsOfObject(t *testing.T) { // P14.1: whatever a class has of these itself, the Roots are Object's
	checkTables(t, []tableCase{
		{"a class without interfaces", list(class("A", "Object")), "A", objects},
		{"with methods of its own", list(class("A", "Object", method("m", normal), method("<init>", normal), method("n", abstract))), "A", objects},
		{"below another", list(cm("A", "Object", normal), cm("B", "A", normal)), "B", objects},
		{"with interfaces that have no method", list(of(class("A", "Object"), "Cloneable", "Serializable")), "A", objects},
		{"with an id of its own", list(class("A", "Object", method("id()I", normal))), "A", "id=A.id,A.id"},
		{"from its superclass", list(class("A", "Object", method("id()I", normal)), class("B", "A")), "B", "id=A.id,A.id"},
		{"one that is abstract", list(class("A", "Object", method("id()I", abstract))), "A", "id=abstract,abstract"},
		{"one that is Protected", list(class("A", "Object", method("id()I", api.Protected))), "A", "id=hidden,A.id"},
		{"one that is Private", list(class("A", "Object", method("id()I", api.Private))), "A", "id=hidden,id"},
		{"one that is Static", list(class("A", "Object", method("id()I", static))), "A", objects},
		{"another Desc", list(class("A", "Object", method("id()V", api.Private))), "A", objects},
		{"an interface's id beside it", list(iface("I", method("id()I", normal)), of(class("A", "Object"), "I")), "A", "id=id,id I.id=id,I.id"},
		{"an interface's abstract id", list(iface("I", method("id()I", abstract)), of(class("A", "Object"), "I")), "A", "id=id,id I.id=id,abstract"},
		{"an interface's private id", list(iface("I", method("id()I", api.Private)), of(class("A", "Object"), "I")), "A", objects},
		{"an interface's kin, below Object's", list(iface("I", method("kin()LObject;", normal)), of(class("A", "Object"), "I")), "A", "id=id,id I.kin=hidden,I.kin"},
		{"with a kin of its own", list(iface("I", method("kin()LObject;", normal)), of(class("A", "Object", method("kin()LObject;", normal)), "I")), "A", "id=id,id I.kin=A.kin,A.kin"},
	})
}

// rootNames writes what Roots answers as texts such as I.m()V, with blanks between.
func rootNames(t *testing.T, w *hier.World, name string) string {
	t.Helper()
	roots, e := Roots(w, number(t, w, name))
	if e != api.OK {
		t.Fatalf("Roots(%s): %d", name, e)
	}
	var out []string
	for _, root := range roots {
		c, _ := w.Class(root.Class)
		m, e := w.Method(root)
		if e != api.OK {
			t.Fatalf("Roots(%s) has %v", name, root)
		}
		out = append(out, c.Name+"."+m.Name+m.Desc)
	}
	return strings.Join(out, " ")
}

func TestRoots(t *testing.T) { // P14.1
	w := worldOf(t,
		iface("I", method("v", api.Private), method("a", abstract), method("s", static), method("d", normal), method("u", api.Private|api.Static), method("a(I)V", normal)),
		of(iface("J", method("a", normal), method("j", abstract)), "I"),
		of(iface("K", method("k", normal), method("a", abstract)), "I"),
		iface("L", method("s", static), method("v", api.Private)),
		iface("M", method("z", abstract), method("b", normal)),
		of(class("A", "Object", method("a", normal), method("q", normal)), "K"),
		of(class("B", "A", method("k", normal)), "M", "J", "L"),
		of(class("C", "B"), "I", "K", "J"),
		of(class("D", "Object"), "K", "J"),
		of(class("E", "Object"), "J", "K"),
		class("F", "B", method("f", normal)),
		of(class("G", "Object"), "L"),
	)
	const id, ofI, ofJ, ofK, ofM = "Object.id()I", "I.a()V I.d()V I.a(I)V", "J.a()V J.j()V", "K.k()V K.a()V", "M.z()V M.b()V"
	for _, c := range []struct {
		name string
		want []string
	}{
		{"Object", []string{id}},
		{"A", []string{id, ofI, ofK}},
		{"B", []string{id, ofI, ofK, ofM, ofJ}}, // the superclass's first; I, which stands already, is passed over
		{"C", []string{id, ofI, ofK, ofM, ofJ}}, // it names none that is new
		{"D", []string{id, ofI, ofK, ofJ}},      // what is above an interface stands ahead of it
		{"E", []string{id, ofI, ofJ, ofK}},
		{"F", []string{id, ofI, ofK, ofM, ofJ}},
		{"G", []string{id}},
	} {
		if got, want := rootNames(t, w, c.name), strings.Join(c.want, " "); got != want {
			t.Errorf("Roots(%s) = %s, want %s", c.name, got, want)
		}
	}
	for _, name := range []string{"I", "J", "K", "L", "M", "Cloneable", "Serializable"} {
		tableRefused(t, w, api.Incompatible, number(t, w, name))
	}
	built(t, w, "B", "id=id,id I.a=A.a,A.a I.d=I.d,I.d I.a(I)V=I.a(I)V,I.a(I)V K.k=B.k,B.k K.a=A.a,A.a M.z=abstract,abstract M.b=M.b,M.b J.a=A.a,J.a J.j=abstract,abstract")
	built(t, w, "E", "id=id,id I.a=J.a,J.a I.d=I.d,I.d I.a(I)V=I.a(I)V,I.a(I)V J.a=J.a,J.a J.j=abstract,abstract K.k=K.k,K.k K.a=J.a,J.a")
}

// entryText tells what a class A that names I, with m abstract or default in it, has for I's m, by the flags of A's own m.
func entryText(own int, isDefault bool) string {
	ofIface := "abstract"
	if isDefault {
		ofIface = "I"
	}
	switch {
	case own&api.Static != 0: // it counts for neither
		return ofIface + "," + ofIface
	case own&api.Private != 0:
		return "hidden," + ofIface
	case own&api.AbstractFl != 0 && own&api.Public != 0:
		return "abstract,abstract"
	case own&api.AbstractFl != 0:
		return "hidden,abstract"
	case own&api.Public != 0:
		return "A,A"
	}
	return "hidden,A"
}

// methodFlags are sets of flags that go together, of each kind of access.
var methodFlags = []int{
	api.Public, api.Protected, 0, api.Private,
	api.Public | api.Static, api.Protected | api.Static, api.Static, api.Private | api.Static,
	api.Public | api.Final, api.Protected | api.Final, api.Final, api.Private | api.Final, api.Static | api.Final,
	api.Public | api.AbstractFl, api.Protected | api.AbstractFl, api.AbstractFl,
}

func TestBuildByTheClassesOwnMethod(t *testing.T) { // P14.2, P14.4: each kind of method in the class, below each kind in the interface
	for _, own := range methodFlags {
		for _, above := range []int{normal, abstract} {
			w := worldOf(t, im("I", above), of(cm("A", "Object", own), "I"), class("B", "A"))
			want := objects + " I=" + entryText(own, above == normal)
			built(t, w, "A", want)
			built(t, w, "B", want)
		}
		for _, above := range []int{static, api.Private, api.Private | api.Static} {
			w := worldOf(t, im("I", above), of(cm("A", "Object", own), "I"))
			built(t, w, "A", objects)
			notFound(t, w, api.ErrNone, "A", "I", "A")
		}
	}
}

func TestBuildByInterfacesAlone(t *testing.T) { // P14.2, P14.4
	checkTables(t, []tableCase{
		{"a default", list(im("I", normal), of(class("A", "Object"), "I")), "A", objects + " I=I,I"},
		{"the lower default for both", list(im("I", normal), of(im("J", normal), "I"), of(class("A", "Object"), "J")), "A", objects + " I=J,J J=J,J"},
		{"a default below an abstract one", list(im("I", abstract), of(im("J", normal), "I"), of(class("A", "Object"), "J")), "A", objects + " I=J,J J=J,J"},
		{"an abstract one below a default", list(im("I", normal), of(im("J", abstract), "I"), of(class("A", "Object"), "J")), "A", objects + " I=abstract,abstract J=abstract,abstract"},
		{"a default beside an abstract one", list(im("I", abstract), im("J", normal), of(class("A", "Object"), "I", "J")), "A", objects + " I=J,J J=J,J"},
		{"two abstract ones", list(im("I", abstract), im("J", abstract), of(class("A", "Object"), "J", "I")), "A", objects + " J=abstract,abstract I=abstract,abstract"},
		{"two defaults and an abstract one", list(im("I", normal), im("J", abstract), im("K", normal), of(class("A", "Object"), "I", "J", "K")), "A", objects + " I=conflict,conflict J=conflict,conflict K=conflict,conflict"},
		{"two defaults below a third", list(im("I", normal), of(im("J", normal), "I"), of(im("K", normal), "I"), of(class("A", "Object"), "J", "K")), "A", objects + " I=conflict,conflict J=conflict,conflict K=conflict,conflict"},
		{"a private one counts for nothing", list(im("I", normal), of(im("J", api.Private), "I"), of(class("A", "Object"), "J")), "A", objects + " I=I,I"},
		{"a static one counts for nothing", list(im("I", normal), im("J", static), of(class("A", "Object"), "I", "J")), "A", objects + " I=I,I"},
		{"one of the superclass, one of its own", list(im("I", normal), im("J", normal), of(class("A", "Object"), "I"), of(class("B", "A"), "J")), "B", objects + " I=conflict,conflict J=conflict,conflict"},
		{"the same two, the superclass alone", list(im("I", normal), im("J", normal), of(class("A", "Object"), "I"), of(class("B", "A"), "J")), "A", objects + " I=I,I"},
	})
}

func TestBuildWhereTheKindsDiffer(t *testing.T) { // P14.2, P14.4
	checkTables(t, []tableCase{
		{"the superclass has it, without the interface", list(im("I", abstract), cm("S", "Object", normal), of(class("A", "S"), "I")), "A", objects + " I=S,abstract"},
		{"and the interface a default", list(im("I", normal), cm("S", "Object", normal), of(class("A", "S"), "I")), "A", objects + " I=S,I"},
		{"and there are two defaults", list(im("I", normal), im("J", normal), cm("S", "Object", normal), of(class("A", "S"), "I", "J")), "A", objects + " I=S,conflict J=S,conflict"},
		{"the superclass has it, with the interface", list(im("I", normal), of(cm("S", "Object", normal), "I"), of(class("A", "S"), "I")), "A", objects + " I=S,S"},
		{"the superclass has one of two interfaces", list(im("I", normal), im("J", normal), of(cm("S", "Object", normal), "I"), of(class("A", "S"), "J")), "A", objects + " I=S,S J=S,conflict"},
		{"the superclass's is Protected, without the interface", list(im("I", normal), cm("S", "Object", api.Protected), of(class("A", "S"), "I")), "A", objects + " I=hidden,I"},
		{"the superclass's is abstract, without the interface", list(im("I", normal), cm("S", "Object", abstract), of(class("A", "S"), "I")), "A", objects + " I=abstract,I"},
		{"a private one below a public one", list(im("I", normal), of(cm("S", "Object", normal), "I"), cm("A", "S", api.Private)), "A", objects + " I=hidden,S"},
		{"a static one below a public one", list(im("I", normal), of(cm("S", "Object", normal), "I"), cm("A", "S", static)), "A", objects + " I=S,S"},
		{"a public one below a private one", list(im("I", normal), of(cm("S", "Object", api.Private), "I"), cm("A", "S", normal)), "A", objects + " I=A,A"},
		{"without a word, of another package", list(im("p/I", abstract), of(cm("q/A", "Object", 0), "p/I"), by(3, class("r/B", "q/A"))), "r/B", objects + " p/I=hidden,q/A"},
		{"two below each other, no word above", list(im("I", abstract), of(cm("p/A", "Object", 0), "I"), cm("q/B", "p/A", normal)), "q/B", objects + " I=q/B,q/B"},
		{"another Desc is another method", list(im("I", abstract), of(class("A", "Object", method("m()I", normal)), "I")), "A", objects + " I=abstract,abstract"},
	})
}

func TestLookup(t *testing.T) { // P14.3: ErrNone of all that is none of the Roots
	w := worldOf(t,
		iface("I", method("v", api.Private), method("m", normal), method("s", static), method("u", api.Private|api.Static), method("a", abstract)),
		of(iface("J", method("m", abstract)), "I"),
		of(iface("K", method("m", normal)), "J"),
		of(class("A", "Object", method("<init>", normal), method("m", normal), method("v", normal), method("s", normal), method("id()I", normal), method("kin()LObject;", normal)), "J"),
		class("B", "A", method("m", normal)),
		class("C", "Object", method("m", normal)),
		of(class("D", "C"), "K"),
	)
	built(t, w, "A", "id=A.id,A.id I=A,A I.a=abstract,abstract J=A,A")
	built(t, w, "B", "id=A.id,A.id I=B,B I.a=abstract,abstract J=B,B")
	built(t, w, "C", objects)
	built(t, w, "D", "id=id,id I=C,K I.a=abstract,abstract J=C,K K=C,K")
	notFound(t, w, api.ErrNone, "Object", "Object.<init>", "kin", "I", "I.v", "I.s", "I.u", "I.a", "J", "K", "A", "A.id", "A.<init>", "B", "C")
	notFound(t, w, api.ErrNone, "A", "Object.<init>", "kin", "I.v", "I.s", "I.u", "K", "A", "A.id", "A.kin", "A.<init>", "A.v", "A.s", "B", "C")
	notFound(t, w, api.ErrNone, "B", "Object.<init>", "kin", "I.v", "I.s", "I.u", "K", "A", "A.id", "A.kin", "A.<init>", "B", "C")
	notFound(t, w, api.ErrNone, "C", "Object.<init>", "kin", "I", "I.a", "J", "K", "A", "C")
	notFound(t, w, api.ErrNone, "D", "Object.<init>", "kin", "I.v", "I.s", "I.u", "A", "A.id", "B", "C")
}

func TestMarks(t *testing.T) { // P14.4
	i := iface("I", method("a", abstract), method("b", abstract), method("c", normal), method("d", normal), method("e", normal), method("f", abstract), method("g", abstract), method("s", static), method("v", api.Private))
	j := iface("J", method("c", normal), method("d", normal), method("e", normal), method("h", normal))
	w := worldOf(t, i, j,
		of(class("A", "Object", method("a", normal), method("f", 0)), "I"),
		of(class("B", "A", method("id()I", api.Protected)), "J"),
		of(class("C", "B", method("c", api.Private), method("g", normal), method("b", abstract)), "J", "I"),
		of(class("D", "Object", method("m", normal)), "J"),
	)
	for name, want := range map[string][4]int{
		"Object": {1, 0, 0, 0},
		"A":      {5, 2, 0, 1}, // id a c d e; b g; f
		"B":      {2, 2, 6, 2}, // a h; b g; I's and J's c d e; id f
		"C":      {3, 1, 4, 4}, // a g h; b; I's and J's d e; id f, I's and J's c
		"D":      {5, 0, 0, 0},
	} {
		marksAre(t, w, number(t, w, name), want, api.OK)
		table, _ := Build(w, number(t, w, name))
		if got := marksOf(table); got != want {
			t.Errorf("the table of %s has the marks %v, want %v", name, got, want)
		}
	}
	for _, name := range []string{"I", "J", "Cloneable"} {
		marksAre(t, w, number(t, w, name), [4]int{}, api.Incompatible)
	}
}

func TestLookupForInterfaces(t *testing.T) { // P14.3: Incompatible is said ahead of ErrNone, and of a Root too
	w := worldOf(t, iface("I", method("m", normal), method("v", api.Private), method("s", static)), of(iface("J"), "I"), class("A", "Object", method("m", normal), method("<init>", 0)))
	for _, r := range []string{"Cloneable", "Serializable", "I", "J"} {
		tableRefused(t, w, api.Incompatible, number(t, w, r))
		notFound(t, w, api.Incompatible, r, "id", "kin", "Object.<init>", "A", "A.<init>", "I", "I.v", "I.s")
	}
}

func TestNoNumbers(t *testing.T) { // P14.1 to P14.4: id, r and m, one at a time and together; ErrRange is said ahead of the other errors
	w := worldOf(t, im("I", normal), of(cm("A", "Object", normal), "I"), cm("B", "A", static))
	good := []api.MethodID{{}, at(t, w, "id"), at(t, w, "A"), at(t, w, "B"), at(t, w, "I")}
	for _, odd := range append([]int{w.Len(), w.Len() + 1}, oddNumbers...) {
		tableRefused(t, w, api.ErrRange, odd)
		for _, m := range good {
			lookupRefused(t, w, api.ErrRange, odd, m)
			for _, none := range []api.MethodID{{Class: odd}, {Class: odd, Index: 1}, {Class: m.Class, Index: odd}, {Class: odd, Index: odd}, {Class: odd, Index: -1}} {
				lookupRefused(t, w, api.ErrRange, odd, none)
				for r := range w.Len() { // interfaces among them
					lookupRefused(t, w, api.ErrRange, r, none)
				}
			}
		}
	}
}

func TestAtTheEdges(t *testing.T) { // P14.1 to P14.4: of each class and of its methods both edges and one beyond
	many := iface("Many")
	for n := range api.MaxMethods {
		many.Methods = append(many.Methods, method(fmt.Sprint("m", n), normal))
	}
	w := worldOf(t, iface("None"), many, of(class("A", "Object"), "None", "Many"))
	last, wide := w.Len()-1, number(t, w, "Many")
	tableRefused(t, w, api.ErrRange, -1)
	tableRefused(t, w, api.ErrRange, w.Len())
	built(t, w, "Object", objects)
	want := entries(t, w, objects)
	for n := range api.MaxMethods {
		m := api.MethodID{Class: wide, Index: n}
		want = append(want, api.Entry{Root: m, Method: m, Virtual: m})
	}
	tableIs(t, w, last, want)
	for _, index := range []int{-1, api.MaxMethods} {
		lookupRefused(t, w, api.ErrRange, last, api.MethodID{Class: wide, Index: index})
	}
	for _, index := range []int{0, api.MaxMethods - 1} {
		m := api.MethodID{Class: wide, Index: index}
		lookupRefused(t, w, api.ErrNone, 0, m)
		lookupRefused(t, w, api.ErrRange, -1, m)
		lookupRefused(t, w, api.ErrRange, last+1, m)
	}
	lookupRefused(t, w, api.ErrRange, last, api.MethodID{Class: number(t, w, "None")})
	lookupRefused(t, w, api.ErrRange, last, api.MethodID{Class: last})
	lookupRefused(t, w, api.ErrRange, last, api.MethodID{Class: last + 1})
	lookupRefused(t, w, api.ErrRange, last, api.MethodID{Class: -1})
	lookupRefused(t, w, api.ErrRange, last, api.MethodID{Index: -1})
	lookupRefused(t, w, api.ErrNone, last, api.MethodID{})
	lookupRefused(t, w, api.ErrNone, last, api.MethodID{Index: 2})
	lookupRefused(t, w, api.ErrRange, last, api.MethodID{Index: 3})
}

func TestNilWorld(t *testing.T) { // P14.1 to P14.4, R6: ahead of every other error
	for _, id := range append([]int{0, 1, 2, 3}, oddNumbers...) {
		tableRefused(t, nil, api.ErrArg, id)
		for _, index := range append([]int{0, 1, 2, 3}, oddNumbers...) {
			for _, r := range append([]int{0, 1}, oddNumbers...) {
				lookupRefused(t, nil, api.ErrArg, r, api.MethodID{Class: id, Index: index})
			}
		}
	}
}

// TestWorldThatNewDidNotMake: it has no class, so no number is one.
func TestWorldThatNewDidNotMake(t *testing.T) { // P0.1
	w := &hier.World{}
	for _, id := range append([]int{0, 1}, oddNumbers...) {
		tableRefused(t, w, api.ErrRange, id)
		lookupRefused(t, w, api.ErrRange, id, api.MethodID{Class: id})
	}
}

// TestManyInterfaces: as many above a class as a world takes, each below the one ahead of it.
func TestManyInterfaces(t *testing.T) { // P14.1 to P14.4, P0.1
	w, above := hier.New(), []string(nil)
	for w.Len() < api.MaxClasses-1 {
		c := of(im(fmt.Sprint("I", w.Len()), normal), above...)
		define(t, w, c)
		above = []string{c.Name}
	}
	last := define(t, w, of(class("A", "Object"), above...))
	best := api.MethodID{Class: last - 1}
	want := entries(t, w, objects)
	for id := 3; id < last; id++ {
		want = append(want, api.Entry{Root: api.MethodID{Class: id}, Method: best, Virtual: best})
	}
	if got, e := Build(w, last); !slices.Equal(got, want) || e != api.OK {
		t.Errorf("Build = %v, %d", got, e)
	}
	marksAre(t, w, last, [4]int{len(want), 0, 0, 0}, api.OK)
	for _, at := range []int{0, 1, len(want) - 1} {
		if got, e := Lookup(w, last, want[at].Root); got != want[at] || e != api.OK {
			t.Errorf("Lookup(%v) = %v, %d", want[at].Root, got, e)
		}
	}
}

func TestLongChain(t *testing.T) { // P14.1 to P14.4, P0.1: an interface and a method at the top of nearly all classes
	classes := list(im("I", abstract), of(cm("C0", "Object", normal), "I"))
	for n := 1; len(classes) < api.MaxClasses-3; n++ {
		classes = append(classes, cm(fmt.Sprint("C", n), fmt.Sprint("C", n-1), static))
	}
	w := worldOf(t, classes...)
	built(t, w, classes[len(classes)-1].Name, objects+" I=C0,C0")
}
