package vtable

import (
	"fmt"
	"math"
	"slices"
	"strings"
	"testing"

	"arbiter/api"
	"arbiter/hier"
	"arbiter/override"
)

// objects is the table of Object, with which every other begins.
const objects = "id=id kin=kin"

// oddNumbers are numbers of no class of any world, and of no method of any class.
var oddNumbers = []int{-1, math.MinInt, math.MaxInt, -2, api.MaxClasses, api.MaxClasses + 1, 1 << 32, -1 << 32, 1<<32 + 1}

// method has the descriptor ()V, unless its name brings one.
func method(name string, flags int) api.Method {
	m := api.Method{Name: name, Desc: "()V", Flags: flags}
	if at := strings.Index(name, "("); at >= 0 {
		m.Name, m.Desc = name[:at], name[at:]
	}
	if flags&api.AbstractFl == 0 {
		m.Locals, m.Code = 4, []api.Inst{{Op: api.Return}}
	}
	return m
}

func class(name, super string, methods ...api.Method) api.Class {
	return api.Class{Name: name, Super: super, Flags: api.Public | api.Super | api.AbstractFl, Methods: methods}
}

func iface(name string, methods ...api.Method) api.Class {
	return api.Class{Name: name, Super: "Object", Flags: api.Public | api.Interface | api.AbstractFl, Methods: methods}
}

// m makes a class with one method m.
func m(name, super string, flags int) api.Class {
	return class(name, super, method("m", flags))
}

func by(loader int, c api.Class) api.Class {
	c.Loader = loader
	return c
}

func of(c api.Class, ifaces ...string) api.Class {
	c.Ifaces = ifaces
	return c
}

func list(classes ...api.Class) []api.Class {
	return classes
}

func define(t *testing.T, w *hier.World, c api.Class) int {
	t.Helper()
	id, e := w.Define(c)
	if e != api.OK {
		t.Fatalf("Define(%v): %d", c, e)
	}
	return id
}

func worldOf(t *testing.T, classes ...api.Class) *hier.World {
	t.Helper()
	w := hier.New()
	for _, c := range classes {
		define(t, w, c)
	}
	return w
}

func number(t *testing.T, w *hier.World, name string) int {
	t.Helper()
	id, e := w.ByName(name)
	if e != api.OK {
		t.Fatalf("ByName(%s): %d", name, e)
	}
	return id
}

// at finds a method by a text: p/A is p/A's m ()V, p/A.n p/A's n ()V, p/A.n()I p/A's n ()I; id and kin are Object's.
func at(t *testing.T, w *hier.World, text string) api.MethodID {
	t.Helper()
	switch text {
	case "id":
		text = "Object.id()I"
	case "kin":
		text = "Object.kin()LObject;"
	}
	name, rest, _ := strings.Cut(text, ".")
	if rest == "" {
		rest = "m"
	}
	want, id := method(rest, 0), number(t, w, name)
	index, e := w.Find(id, want.Name, want.Desc)
	if e != api.OK {
		t.Fatalf("Find(%s): %d", text, e)
	}
	return api.MethodID{Class: id, Index: index}
}

// slots reads a table's text: Root=Method of each slot, with blanks between.
func slots(t *testing.T, w *hier.World, text string) []api.Slot {
	t.Helper()
	var out []api.Slot
	for _, word := range strings.Fields(text) {
		root, held, _ := strings.Cut(word, "=")
		out = append(out, api.Slot{Root: at(t, w, root), Method: at(t, w, held)})
	}
	return out
}

// tableIs asks Build and Size.
func tableIs(t *testing.T, w *hier.World, id int, want []api.Slot) {
	t.Helper()
	if got, e := Build(w, id); !slices.Equal(got, want) || e != api.OK {
		t.Errorf("Build(%d) = %v, %d, want %v", id, got, e, want)
	}
	if got, e := Size(w, id); got != len(want) || e != api.OK {
		t.Errorf("Size(%d) = %d, %d, want %d", id, got, e, len(want))
	}
}

// built asks for the table of the class of a name.
func built(t *testing.T, w *hier.World, name, want string) {
	t.Helper()
	tableIs(t, w, number(t, w, name), slots(t, w, want))
}

func tableRefused(t *testing.T, w *hier.World, want api.Errno, id int) {
	t.Helper()
	if got, e := Build(w, id); len(got) != 0 || e != want {
		t.Errorf("Build(%d) = %v, %d, want %d", id, got, e, want)
	}
	if got, e := Size(w, id); got != 0 || e != want {
		t.Errorf("Size(%d) = %d, %d, want %d", id, got, e, want)
	}
}

func slotIs(t *testing.T, w *hier.World, text string, want int) {
	t.Helper()
	if got, e := SlotOf(w, at(t, w, text)); got != want || e != api.OK {
		t.Errorf("SlotOf(%s) = %d, %d, want %d", text, got, e, want)
	}
}

func slotRefused(t *testing.T, w *hier.World, want api.Errno, m api.MethodID) {
	t.Helper()
	if got, e := SlotOf(w, m); got != 0 || e != want {
		t.Errorf("SlotOf(%v) = %d, %d, want %d", m, got, e, want)
	}
}

func selectRefused(t *testing.T, w *hier.World, want api.Errno, r int, m api.MethodID) {
	t.Helper()
	if got, e := Select(w, r, m); got != (api.MethodID{}) || e != want {
		t.Errorf("Select(%d, %v) = %v, %d, want %d", r, m, got, e, want)
	}
}

// selected asks Select, and holds its answer against override.First.
func selected(t *testing.T, w *hier.World, r, asked, want string) {
	t.Helper()
	id, of, runs := number(t, w, r), at(t, w, asked), at(t, w, want)
	if got, e := Select(w, id, of); got != runs || e != api.OK {
		t.Errorf("Select(%s, %s) = %v, %d, want %v", r, asked, got, e, runs)
	}
	if first, e := override.First(w, id, of); first != runs || e != api.OK {
		t.Errorf("First(%s, %s) = %v, %d, want %v", r, asked, first, e, runs)
	}
}

// notSelected asks Select by texts where it has nothing to answer.
func notSelected(t *testing.T, w *hier.World, r, asked string, want api.Errno) {
	t.Helper()
	selectRefused(t, w, want, number(t, w, r), at(t, w, asked))
}

func TestExamples(t *testing.T) { // the chapter's examples
	w := worldOf(t, class("A", "Object", method("m", api.Public), method("id()I", api.Public)))
	built(t, w, "Object", objects)
	built(t, w, "A", "id=A.id()I kin=kin A=A")

	w = worldOf(t, m("p/A", "Object", 0), m("q/B", "p/A", api.Public), m("p/C", "q/B", api.Public))
	built(t, w, "p/A", objects+" p/A=p/A")
	built(t, w, "q/B", objects+" p/A=p/A q/B=q/B")
	built(t, w, "p/C", objects+" p/A=p/C q/B=p/C")
	slotIs(t, w, "p/A", 2)
	slotIs(t, w, "q/B", 3)
	slotIs(t, w, "p/C", 2)

	w = worldOf(t, m("p/A", "Object", api.Public), m("p/B", "p/A", 0), m("q/C", "p/B", api.Public))
	built(t, w, "p/B", objects+" p/A=p/B p/B=p/B")
	built(t, w, "q/C", objects+" p/A=q/C p/B=p/B")
	slotIs(t, w, "p/B", 3)
	slotIs(t, w, "q/C", 2)

	w = worldOf(t, class("A", "Object", method("s", api.Static), method("v", api.Private), method("<init>", 0), method("m", api.Public)), iface("I", method("m", api.Public)), m("B", "A", api.Public))
	for _, none := range []string{"A.s", "A.v", "A.<init>", "I"} {
		slotRefused(t, w, api.ErrNone, at(t, w, none))
	}
	notSelected(t, w, "A", "B", api.ErrNone)
}

// pairTable tells what follows Object's slots in the table of B, whose superclass A has an m too.
func pairTable(upper, lower int, apart bool) string {
	upperIs := upper&(api.Private|api.Static) == 0
	lowerIs := lower&(api.Private|api.Static) == 0
	overrides := upperIs && lowerIs && (upper&(api.Public|api.Protected) != 0 || !apart)
	switch {
	case overrides && lower&(api.Public|api.Protected) != 0:
		return "A=B"
	case overrides:
		return "A=B B=B"
	case upperIs && lowerIs:
		return "A=A B=B"
	case upperIs:
		return "A=A"
	case lowerIs:
		return "B=B"
	}
	return ""
}

// methodFlags are sets of flags that go together, of each kind of access.
var methodFlags = []int{
	api.Public, api.Protected, 0, api.Private,
	api.Public | api.Static, api.Protected | api.Static, api.Static, api.Private | api.Static,
	api.Public | api.Final, api.Protected | api.Final, api.Final, api.Private | api.Final, api.Static | api.Final,
	api.Public | api.AbstractFl, api.Protected | api.AbstractFl, api.AbstractFl,
}

func TestBuildOfTwoClasses(t *testing.T) { // P13.1, P13.4: each kind of method above each other, in one run-time package and in two
	for _, upper := range methodFlags {
		for _, lower := range methodFlags {
			for _, c := range []struct {
				above, below string
				loader       int
			}{{"A", "B", 0}, {"p/A", "p/B", 0}, {"p/A", "q/B", 0}, {"p/A", "p/q/B", 0}, {"p/A", "B", 0}, {"p/A", "p/B", 1}} {
				w := worldOf(t, m(c.above, "Object", upper), by(c.loader, m(c.below, c.above, lower)))
				apart := strings.TrimSuffix(c.above, "A") != strings.TrimSuffix(c.below, "B") || c.loader != 0
				want := strings.NewReplacer("A", c.above, "B", c.below).Replace(pairTable(upper, lower, apart))
				built(t, w, c.below, objects+" "+want)
			}
		}
	}
}

// tableCase says the table of one class by its text, without Object's slots ahead.
type tableCase struct {
	what    string
	classes []api.Class
	of      string
	want    string
}

func checkTables(t *testing.T, cases []tableCase) {
	t.Helper()
	for _, c := range cases {
		t.Run(c.what, func(t *testing.T) {
			built(t, worldOf(t, c.classes...), c.of, objects+" "+c.want)
		})
	}
}

func TestBuildOfOneClass(t *testing.T) { // P13.1, P13.4
	each := class("A", "Object", method("<init>", 0), method("w", 0), method("s", api.Public|api.Static), method("o", api.Public), method("v", api.Private), method("k", api.Protected), method("<init>(I)V", api.Public), method("a", api.AbstractFl))
	checkTables(t, []tableCase{
		{"without methods", list(class("A", "Object")), "A", ""},
		{"each kind, in order", list(each), "A", "A.w=A.w A.o=A.o A.k=A.k A.a=A.a"},
		{"below it, without methods", list(each, class("B", "A")), "B", "A.w=A.w A.o=A.o A.k=A.k A.a=A.a"},
		{"none that is virtual", list(class("A", "Object", method("<init>", 0), method("s", api.Static), method("v", api.Private))), "A", ""},
		{"another Name", list(m("A", "Object", api.Public), class("B", "A", method("n", api.Public))), "B", "A=A B.n=B.n"},
		{"another Desc", list(m("A", "Object", api.Public), class("B", "A", method("m(I)V", api.Public))), "B", "A=A B.m(I)V=B.m(I)V"},
		{"one Name, several Descs", list(class("A", "Object", method("m", api.Public), method("m()I", api.Public), method("m(I)V", api.Public)), class("B", "A", method("m(I)V", api.Public), method("m", api.Public))), "B", "A=B A.m()I=A.m()I A.m(I)V=B.m(I)V"},
		{"the superclass's order, then its own", list(class("A", "Object", method("a", api.Public), method("b", api.Public)), class("B", "A", method("d", 0), method("b", api.Public), method("c", api.Public), method("a", 0))), "B", "A.a=B.a A.b=B.b B.d=B.d B.c=B.c B.a=B.a"},
		{"an interface's methods make no slot", list(iface("I", method("m", api.Public), method("n", api.Public|api.AbstractFl)), of(class("A", "Object"), "I")), "A", ""},
		{"nor do they stand in one", list(iface("I", method("m", api.Public)), m("A", "Object", api.Public), of(class("B", "A"), "I")), "B", "A=A"},
		{"one that overrides an interface's has its own", list(iface("I", method("m", api.Public)), of(m("A", "Object", api.Public), "I")), "A", "A=A"},
	})
	w := worldOf(t, class("A", "Object", method("kin()LObject;", 0), method("id()I", api.Protected), method("id()V", api.Public)))
	built(t, w, "A", "id=A.id()I kin=A.kin()LObject; A.kin()LObject;=A.kin()LObject; A.id()V=A.id()V")
	w = worldOf(t, by(3, class("A", "Object", method("kin()LObject;", api.Private), method("id()I", api.Static))))
	built(t, w, "A", objects)
}

func TestBuildOfChains(t *testing.T) { // P13.1, P13.4
	open, shut, kin, static := api.Public, api.Private, api.Protected, api.Static|api.Public
	checkTables(t, []tableCase{
		{"one slot for all", list(m("A", "Object", open), m("B", "A", open), m("C", "B", kin)), "C", "A=C"},
		{"from the grandparent", list(m("A", "Object", open), class("B", "A"), m("C", "B", open)), "C", "A=C"},
		{"the parent's, where there is none of its own", list(m("A", "Object", open), m("B", "A", open), class("C", "B")), "C", "A=B"},
		{"what is beside turns nothing", list(m("A", "Object", open), m("B", "A", open), m("C", "A", open), class("D", "A")), "D", "A=A"},
		{"nor what is beside with more", list(m("A", "Object", open), class("B", "A", method("n", open), method("m", 0)), class("C", "A", method("n", open))), "C", "A=A C.n=C.n"},
		{"past a private one", list(m("A", "Object", open), m("B", "A", shut), m("C", "B", open)), "C", "A=C"},
		{"past a static one", list(m("A", "Object", open), m("B", "A", static), m("C", "B", open)), "C", "A=C"},
		{"below a private one alone", list(m("A", "Object", shut), m("B", "A", open), m("C", "B", open)), "C", "B=C"},
		{"each without a word, one package", list(m("A", "Object", 0), m("B", "A", 0), m("C", "B", 0)), "C", "A=C B=C C=C"},
		{"Public below these", list(m("A", "Object", 0), m("B", "A", 0), m("C", "B", open)), "C", "A=C B=C"},
		{"each without a word, of its own package", list(m("p/A", "Object", 0), m("q/B", "p/A", 0), m("r/C", "q/B", 0)), "r/C", "p/A=p/A q/B=q/B r/C=r/C"},
		{"Protected, of a third package", list(m("p/A", "Object", 0), m("q/B", "p/A", 0), m("r/C", "q/B", kin)), "r/C", "p/A=p/A q/B=q/B r/C=r/C"},
		{"back in the first package", list(m("p/A", "Object", 0), m("q/B", "p/A", 0), m("p/C", "q/B", 0)), "p/C", "p/A=p/C q/B=q/B p/C=p/C"},
		{"back there, Protected", list(m("p/A", "Object", 0), m("q/B", "p/A", 0), m("p/C", "q/B", kin)), "p/C", "p/A=p/C q/B=q/B"},
		{"by way of another", list(m("p/A", "Object", 0), m("p/B", "p/A", open), m("q/C", "p/B", open)), "q/C", "p/A=q/C"},
		{"by way of one without a slot of its own", list(m("p/A", "Object", 0), m("q/B", "p/A", open), m("p/C", "q/B", open), m("q/D", "p/C", 0)), "q/D", "p/A=q/D q/B=q/D q/D=q/D"},
		{"not by way of one without a word", list(m("p/A", "Object", 0), m("p/B", "p/A", 0), m("q/C", "p/B", open)), "q/C", "p/A=p/B p/B=p/B q/C=q/C"},
		{"in the middle one of three slots", list(m("p/A", "Object", 0), m("q/B", "p/A", 0), m("r/C", "q/B", 0), m("q/D", "r/C", open)), "q/D", "p/A=p/A q/B=q/D r/C=r/C"},
		{"another Loader is another package", list(m("p/A", "Object", 0), by(1, m("p/B", "p/A", 0)), m("p/C", "p/B", open)), "p/C", "p/A=p/C p/B=p/B"},
		{"the same Loader, not 0", list(by(9, m("p/A", "Object", 0)), by(9, m("p/B", "p/A", open))), "p/B", "p/A=p/B"},
	})
}

func TestBuildOfInterfaces(t *testing.T) { // P13.1, P13.4
	w := worldOf(t, iface("I"), iface("J", method("m", api.Public), method("id()I", api.Public)), of(iface("K"), "J", "I"), of(class("A", "Object"), "K"))
	for _, name := range []string{"Cloneable", "Serializable", "I", "J", "K"} {
		tableRefused(t, w, api.Incompatible, number(t, w, name))
	}
	built(t, w, "A", objects)
}

func TestBuildWithAsManyMethodsAsThereMayBe(t *testing.T) { // P13.1, P13.4
	wide := func(name, super string, skip int) api.Class {
		c := class(name, super)
		for n := range api.MaxMethods {
			flags := api.Public
			if n%4 == skip {
				flags = api.Private
			}
			c.Methods = append(c.Methods, method(fmt.Sprint("m", n), flags))
		}
		return c
	}
	w := worldOf(t, wide("A", "Object", 1), wide("B", "A", 2))
	above, below := slots(t, w, objects), slots(t, w, objects)
	var added []api.Slot
	for n := range api.MaxMethods {
		a, b := api.MethodID{Class: 3, Index: n}, api.MethodID{Class: 4, Index: n}
		switch n % 4 {
		case 1:
			added = append(added, api.Slot{Root: b, Method: b})
		case 2:
			above, below = append(above, api.Slot{Root: a, Method: a}), append(below, api.Slot{Root: a, Method: a})
		default:
			above, below = append(above, api.Slot{Root: a, Method: a}), append(below, api.Slot{Root: a, Method: b})
		}
	}
	tableIs(t, w, 3, above)
	tableIs(t, w, 4, append(below, added...))
}

func TestSlotOf(t *testing.T) { // P13.2
	w := worldOf(t, class("p/A", "Object", method("<init>", api.Public), method("m", 0), method("n", api.Public), method("id()I", api.Public)), class("q/B", "p/A", method("m", 0), method("n", 0), method("o", api.Protected)), class("p/C", "q/B", method("o", api.Public), method("m", api.Protected), method("n", api.Public)), class("p/D", "p/C"), class("q/E", "p/D", method("m", 0), method("kin()LObject;", 0)))
	built(t, w, "q/B", "id=p/A.id()I kin=kin p/A=p/A p/A.n=q/B.n q/B=q/B q/B.n=q/B.n q/B.o=q/B.o")
	built(t, w, "p/C", "id=p/A.id()I kin=kin p/A=p/C p/A.n=p/C.n q/B=q/B q/B.n=q/B.n q/B.o=p/C.o")
	built(t, w, "q/E", "id=p/A.id()I kin=q/E.kin()LObject; p/A=q/E p/A.n=p/C.n q/B=q/E q/B.n=q/B.n q/B.o=p/C.o q/E=q/E q/E.kin()LObject;=q/E.kin()LObject;")
	for _, c := range []struct {
		text string
		want int
	}{
		{"id", 0}, {"kin", 1},
		{"p/A", 2}, {"p/A.n", 3}, {"p/A.id()I", 0},
		{"q/B", 4}, {"q/B.n", 5}, {"q/B.o", 6}, // q/B.n stands in the slot of p/A.n too
		{"p/C", 2}, {"p/C.n", 3}, {"p/C.o", 6},
		{"q/E", 7}, {"q/E.kin()LObject;", 8},
	} {
		slotIs(t, w, c.text, c.want)
	}
}

func TestSlotOfOneInSeveralSlots(t *testing.T) { // P13.2: the first of them, unless one is its own
	chain := list(m("p/A", "Object", 0), m("q/B", "p/A", 0), m("p/C", "q/B", 0), m("q/D", "p/C", 0))
	for _, c := range []struct {
		what  string
		class api.Class
		table string
		want  int
	}{
		{"the first and the third", m("p/E", "q/D", api.Public), "p/A=p/E q/B=q/D p/C=p/E q/D=q/D", 2},
		{"the second and the fourth", m("q/E", "q/D", api.Public), "p/A=p/C q/B=q/E p/C=p/C q/D=q/E", 3},
		{"two of others, and its own", m("q/E", "q/D", 0), "p/A=p/C q/B=q/E p/C=p/C q/D=q/E q/E=q/E", 6},
		{"its own alone", m("r/E", "q/D", api.Public), "p/A=p/C q/B=q/D p/C=p/C q/D=q/D r/E=r/E", 6},
	} {
		w := worldOf(t, append(slices.Clone(chain), c.class)...)
		built(t, w, c.class.Name, objects+" "+c.table)
		slotIs(t, w, c.class.Name, c.want)
	}
}

func TestSlotOfWhatIsNotVirtual(t *testing.T) { // P13.2
	w := worldOf(t,
		class("A", "Object", method("m", api.Public), method("n", api.Public)),
		class("B", "A", method("m", api.Private), method("n", api.Static), method("<init>", api.Public), method("<init>(I)V", api.Protected)),
		class("C", "B", method("s", api.Public|api.Static), method("v", api.Private|api.Final), method("u", api.Private|api.Static)),
		iface("I", method("m", api.Public), method("a", api.Public|api.AbstractFl), method("v", api.Private), method("s", api.Public|api.Static)))
	for _, text := range []string{"Object.<init>", "B", "B.n", "B.<init>", "B.<init>(I)V", "C.s", "C.v", "C.u", "I", "I.a", "I.v", "I.s"} {
		slotRefused(t, w, api.ErrNone, at(t, w, text))
	}
	slotIs(t, w, "A", 2)
	slotIs(t, w, "A.n", 3)
}

func TestSelect(t *testing.T) { // P13.3
	w := worldOf(t, iface("I", method("m", api.Public)), m("A", "Object", api.Public), class("B", "A"), m("C", "B", api.Public), of(class("D", "C"), "I"), m("E", "A", api.Public), m("F", "E", api.Private), m("G", "F", api.AbstractFl|api.Public))
	for _, c := range []struct{ r, asked, want string }{
		{"A", "A", "A"},
		{"B", "A", "A"},
		{"C", "A", "C"},
		{"C", "C", "C"},
		{"D", "A", "C"},
		{"D", "C", "C"},
		{"E", "A", "E"},
		{"F", "A", "E"},
		{"F", "E", "E"},
		{"G", "A", "G"},
		{"G", "E", "G"},
		{"Object", "id", "id"},
		{"G", "kin", "kin"},
	} {
		selected(t, w, c.r, c.asked, c.want)
	}
	for _, c := range []struct{ r, asked string }{
		{"Object", "A"}, {"A", "C"}, {"B", "C"}, {"B", "E"}, {"C", "E"}, {"E", "C"}, {"D", "G"}, // above, and beside
		{"F", "F"}, {"G", "F"}, {"G", "Object.<init>"}, {"D", "I"}, {"A", "I"}, // not virtual
	} {
		notSelected(t, w, c.r, c.asked, api.ErrNone)
	}
}

func TestSelectOverPackages(t *testing.T) { // P13.3
	w := worldOf(t, m("p/A", "Object", 0), m("q/B", "p/A", api.Public), m("p/C", "q/B", api.Public), m("q/D", "p/C", 0), m("p/E", "q/D", 0), class("q/F", "p/E"))
	for _, c := range []struct{ r, asked, want string }{
		{"p/A", "p/A", "p/A"},
		{"q/B", "p/A", "p/A"}, {"q/B", "q/B", "q/B"},
		{"p/C", "p/A", "p/C"}, {"p/C", "q/B", "p/C"}, {"p/C", "p/C", "p/C"},
		{"q/D", "p/A", "q/D"}, {"q/D", "q/B", "q/D"}, {"q/D", "p/C", "q/D"}, {"q/D", "q/D", "q/D"},
		{"p/E", "p/A", "p/E"}, {"p/E", "q/B", "p/E"}, {"p/E", "p/C", "p/E"}, {"p/E", "q/D", "q/D"}, {"p/E", "p/E", "p/E"},
		{"q/F", "p/A", "p/E"}, {"q/F", "q/B", "p/E"}, {"q/F", "p/C", "p/E"}, {"q/F", "q/D", "q/D"}, {"q/F", "p/E", "p/E"},
	} {
		selected(t, w, c.r, c.asked, c.want)
	}
	w = worldOf(t, m("p/A", "Object", api.Public), m("p/B", "p/A", 0), m("q/C", "p/B", api.Public))
	selected(t, w, "q/C", "p/A", "q/C")
	selected(t, w, "q/C", "p/B", "p/B")
	selected(t, w, "q/C", "q/C", "q/C")
}

func TestSelectForInterfaces(t *testing.T) { // P13.3: Incompatible is said ahead of ErrNone
	w := worldOf(t, iface("I", method("m", api.Public), method("v", api.Private), method("s", api.Static|api.Public)), of(iface("J"), "I"), class("A", "Object", method("m", api.Public), method("s", api.Static), method("v", api.Private), method("<init>", 0)))
	for _, r := range []string{"Cloneable", "Serializable", "I", "J"} {
		for _, asked := range []string{"id", "kin", "Object.<init>", "A", "A.s", "A.v", "A.<init>", "I", "I.v", "I.s"} {
			notSelected(t, w, r, asked, api.Incompatible)
		}
	}
}

func TestNoNumbers(t *testing.T) { // P13.1 to P13.4: id, r and m, one at a time and together; ErrRange is said ahead of the other errors
	w := worldOf(t, m("A", "Object", api.Public), m("B", "A", api.Static), iface("I", method("m", api.Public)))
	good := []api.MethodID{{}, at(t, w, "id"), at(t, w, "A"), at(t, w, "B"), at(t, w, "I")}
	for _, odd := range append([]int{w.Len(), w.Len() + 1}, oddNumbers...) {
		tableRefused(t, w, api.ErrRange, odd)
		for _, m := range good {
			selectRefused(t, w, api.ErrRange, odd, m)
			for _, none := range []api.MethodID{{Class: odd}, {Class: odd, Index: 1}, {Class: m.Class, Index: odd}, {Class: odd, Index: odd}, {Class: odd, Index: -1}} {
				slotRefused(t, w, api.ErrRange, none)
				selectRefused(t, w, api.ErrRange, odd, none)
				for r := range w.Len() { // interfaces among them
					selectRefused(t, w, api.ErrRange, r, none)
				}
			}
		}
	}
}

func TestAtTheEdges(t *testing.T) { // P13.1 to P13.4: of each class and of its methods both edges and one beyond
	many := class("Many", "Object")
	for n := range api.MaxMethods {
		many.Methods = append(many.Methods, method(fmt.Sprint("m", n), api.Public))
	}
	w := worldOf(t, class("None", "Object"), many)
	tableRefused(t, w, api.ErrRange, -1)
	tableRefused(t, w, api.ErrRange, w.Len())
	built(t, w, "Object", objects)
	if got, e := Size(w, w.Len()-1); got != 2+api.MaxMethods || e != api.OK {
		t.Errorf("Size of the last class = %d, %d", got, e)
	}
	last := w.Len() - 1
	for index, want := range map[int]api.Errno{-1: api.ErrRange, 0: api.OK, api.MaxMethods - 1: api.OK, api.MaxMethods: api.ErrRange} {
		asked := api.MethodID{Class: last, Index: index}
		if want != api.OK {
			slotRefused(t, w, want, asked)
			selectRefused(t, w, want, last, asked)
			continue
		}
		if got, e := SlotOf(w, asked); got != 2+index || e != api.OK {
			t.Errorf("SlotOf(%v) = %d, %d", asked, got, e)
		}
		if got, e := Select(w, last, asked); got != asked || e != api.OK {
			t.Errorf("Select(%d, %v) = %v, %d", last, asked, got, e)
		}
		selectRefused(t, w, api.ErrNone, 0, asked)
		selectRefused(t, w, api.ErrNone, last-1, asked)
		selectRefused(t, w, api.ErrRange, last+1, asked)
		selectRefused(t, w, api.ErrRange, -1, asked)
	}
	slotRefused(t, w, api.ErrRange, api.MethodID{Class: number(t, w, "None")})
	slotRefused(t, w, api.ErrRange, api.MethodID{Class: 0, Index: 3})
	slotIs(t, w, "kin", 1)
}

func TestNilWorld(t *testing.T) { // P13.1 to P13.4, R6: ahead of every other error
	for _, id := range append([]int{0, 1, 2, 3}, oddNumbers...) {
		tableRefused(t, nil, api.ErrArg, id)
		for _, index := range append([]int{0, 1, 2, 3}, oddNumbers...) {
			asked := api.MethodID{Class: id, Index: index}
			slotRefused(t, nil, api.ErrArg, asked)
			for _, r := range append([]int{0, 1}, oddNumbers...) {
				selectRefused(t, nil, api.ErrArg, r, asked)
			}
		}
	}
}

// TestWorldThatNewDidNotMake: it has no class, so no number is one.
func TestWorldThatNewDidNotMake(t *testing.T) { // P0.1
	w := &hier.World{}
	for _, id := range append([]int{0, 1}, oddNumbers...) {
		tableRefused(t, w, api.ErrRange, id)
		slotRefused(t, w, api.ErrRange, api.MethodID{Class: id})
		selectRefused(t, w, api.ErrRange, id, api.MethodID{Class: id})
	}
}

// longChain is a chain as long as a world may have, each class with an m; the packages take turns.
func longChain(t *testing.T, flags int, packages ...string) *hier.World {
	t.Helper()
	w, super := hier.New(), "Object"
	for n := range api.MaxClasses - w.Len() {
		c := m(fmt.Sprint(packages[n%len(packages)], "/C", n), super, flags)
		define(t, w, c)
		super = c.Name
	}
	return w
}

func TestLongChains(t *testing.T) { // P13.1 to P13.4: with as many classes as a world takes
	first, last := 3, api.MaxClasses-1
	of := func(id int) api.MethodID { return api.MethodID{Class: id} }

	w := longChain(t, api.Public, "p", "q")
	want := append(slots(t, w, objects), api.Slot{Root: of(first), Method: of(last)})
	tableIs(t, w, last, want)

	for _, packages := range [][]string{{"p"}, {"p", "q"}} {
		w, want = longChain(t, 0, packages...), slots(t, w, objects)
		for id := first; id <= last; id++ {
			want = append(want, api.Slot{Root: of(id), Method: of(last - (last-id)%len(packages))})
		}
		tableIs(t, w, last, want)
		if got, e := SlotOf(w, of(last)); got != len(want)-1 || e != api.OK {
			t.Errorf("SlotOf(%v) = %d, %d", of(last), got, e)
		}
		for _, id := range []int{first, last - 1} {
			if got, e := Select(w, last, of(id)); got != want[2+id-first].Method || e != api.OK {
				t.Errorf("Select(%d, %v) = %v, %d", last, of(id), got, e)
			}
		}
	}
}
