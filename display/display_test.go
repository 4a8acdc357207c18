package display

import (
	"fmt"
	"math"
	"slices"
	"strings"
	"testing"

	"arbiter/api"
	"arbiter/arrays"
	"arbiter/hier"
	"arbiter/types"
)

// oddNumbers are numbers of no class of any world.
var oddNumbers = []int{-1, math.MinInt, math.MaxInt, -2, api.MaxClasses, api.MaxClasses + 1, 1 << 32, -1 << 32, 1<<32 + 1}

func class(name, super string, ifaces ...string) api.Class {
	return api.Class{Name: name, Super: super, Flags: api.Public | api.Super, Ifaces: ifaces}
}

func iface(name string, ifaces ...string) api.Class {
	return api.Class{Name: name, Super: "Object", Flags: api.Public | api.Interface | api.AbstractFl, Ifaces: ifaces}
}

// chainOf are classes C1, C2 and so on, each below the one ahead of it.
func chainOf(count int) []api.Class {
	var out []api.Class
	super := "Object"
	for n := range count {
		c := class(fmt.Sprint("C", n+1), super)
		out = append(out, c)
		super = c.Name
	}
	return out
}

func list(classes ...api.Class) []api.Class {
	return classes
}

func define(t *testing.T, w *hier.World, c api.Class) int {
	t.Helper()
	id, e := w.Define(c)
	if e != api.OK {
		t.Fatalf("Define(%v): %d", c, e)
	}
	return id
}

func worldOf(t *testing.T, classes ...api.Class) *hier.World {
	t.Helper()
	w := hier.New()
	for _, c := range classes {
		define(t, w, c)
	}
	return w
}

func number(t *testing.T, w *hier.World, name string) int {
	t.Helper()
	id, e := w.ByName(name)
	if e != api.OK {
		t.Fatalf("ByName(%s): %d", name, e)
	}
	return id
}

// numbers reads a list's text: names with blanks between.
func numbers(t *testing.T, w *hier.World, text string) []int {
	t.Helper()
	var out []int
	for _, name := range strings.Fields(text) {
		out = append(out, number(t, w, name))
	}
	return out
}

func kind(dims int, name string) api.Type {
	return api.Type{Dims: dims, Name: name}
}

// typeOf reads a type's text of chapter 2, or the name of a class of more than one byte.
func typeOf(t *testing.T, text string) api.Type {
	t.Helper()
	if out, e := types.Parse(text); e == api.OK {
		return out
	}
	out, e := types.ParseRef(text)
	if e != api.OK {
		t.Fatalf("no type: %s", text)
	}
	return out
}

func same(a, b api.Display) bool {
	return slices.Equal(a.Primary, b.Primary) && slices.Equal(a.Deep, b.Deep) && slices.Equal(a.Secondary, b.Secondary)
}

func isEmpty(d api.Display) bool {
	return same(d, api.Display{})
}

// built asks for the display of the class of a name; its three lists are told as names.
func built(t *testing.T, w *hier.World, name, primary, deep, secondary string) {
	t.Helper()
	want := api.Display{Primary: numbers(t, w, primary), Deep: numbers(t, w, deep), Secondary: numbers(t, w, secondary)}
	if got, e := Build(w, number(t, w, name)); !same(got, want) || e != api.OK {
		t.Errorf("Build(%s) = %v, %d, want %v", name, got, e, want)
	}
}

// tested asks Test, and holds its answer against Extends; TestTypes has to answer the same of the class types.
func tested(t *testing.T, w *hier.World, s, other string, want bool, reads int) {
	t.Helper()
	a, b := number(t, w, s), number(t, w, other)
	if got, n, e := Test(w, a, b); got != want || n != reads || e != api.OK {
		t.Errorf("Test(%s, %s) = %v, %d, %d, want %v, %d", s, other, got, n, e, want, reads)
	}
	if w.Extends(a, b) != want {
		t.Errorf("Extends(%s, %s) is not %v", s, other, want)
	}
	for _, dims := range []int{0, 1, 2, api.MaxDims} {
		typesTested(t, w, kind(dims, s), kind(dims, other), want, reads)
	}
}

// typesTested asks TestTypes, and holds its answer against arrays.Sub.
func typesTested(t *testing.T, w *hier.World, s, other api.Type, want bool, reads int) {
	t.Helper()
	if got, n, e := TestTypes(w, s, other); got != want || n != reads || e != api.OK {
		t.Errorf("TestTypes(%v, %v) = %v, %d, %d, want %v, %d", s, other, got, n, e, want, reads)
	}
	if got, e := arrays.Sub(w, s, other); got != want || e != api.OK {
		t.Errorf("Sub(%v, %v) = %v, %d, want %v", s, other, got, e, want)
	}
}

func buildRefused(t *testing.T, w *hier.World, want api.Errno, id int) {
	t.Helper()
	if got, e := Build(w, id); !isEmpty(got) || e != want {
		t.Errorf("Build(%d) = %v, %d, want %d", id, got, e, want)
	}
}

func testRefused(t *testing.T, w *hier.World, want api.Errno, a, b int) {
	t.Helper()
	if got, n, e := Test(w, a, b); got || n != 0 || e != want {
		t.Errorf("Test(%d, %d) = %v, %d, %d, want %d", a, b, got, n, e, want)
	}
}

func typesRefused(t *testing.T, w *hier.World, want api.Errno, a, b api.Type) {
	t.Helper()
	if got, n, e := TestTypes(w, a, b); got || n != 0 || e != want {
		t.Errorf("TestTypes(%.99v, %.99v) = %v, %d, %d, want %d", a, b, got, n, e, want)
	}
}

func deepestIs(t *testing.T, w *hier.World, want int) {
	t.Helper()
	if got, e := Deepest(w); got != want || e != api.OK {
		t.Errorf("Deepest = %d, %d, want %d", got, e, want)
	}
}

func TestExamples(t *testing.T) { // the chapter's examples
	w := hier.New()
	built(t, w, "Object", "Object", "", "")
	built(t, w, "Cloneable", "Object Cloneable", "", "")
	tested(t, w, "Cloneable", "Object", true, 1)
	tested(t, w, "Object", "Cloneable", false, 1)

	w = worldOf(t, chainOf(10)...)
	built(t, w, "C10", "Object C1 C2 C3 C4 C5 C6 C7", "C8 C9 C10", "")
	tested(t, w, "C10", "C8", true, 1)
	tested(t, w, "C3", "C8", false, 1)
	tested(t, w, "C10", "C2", true, 1)

	w = worldOf(t, iface("I"), iface("J"), iface("K"), iface("L"), class("C", "Object", "I", "J", "K"))
	built(t, w, "C", "Object C", "", "I J K")
	tested(t, w, "C", "J", true, 3)
	tested(t, w, "C", "L", false, 4)
	tested(t, w, "C", "I", true, 2)

	for _, c := range []struct{ s, t string }{{"[[I", "[LObject;"}, {"[LC;", "[LC;"}, {"I", "I"}, {"[I", "Cloneable"}} {
		typesTested(t, w, typeOf(t, c.s), typeOf(t, c.t), true, 1)
	}
}

func TestBuildOfChains(t *testing.T) { // P15.1: chains shorter than DisplayDepth, just as long, one longer, much longer
	w := worldOf(t, chainOf(20)...)
	for name, want := range map[string][2]string{
		"Object": {"Object", ""},
		"C1":     {"Object C1", ""},
		"C2":     {"Object C1 C2", ""},
		"C6":     {"Object C1 C2 C3 C4 C5 C6", ""},
		"C7":     {"Object C1 C2 C3 C4 C5 C6 C7", ""},
		"C8":     {"Object C1 C2 C3 C4 C5 C6 C7", "C8"},
		"C9":     {"Object C1 C2 C3 C4 C5 C6 C7", "C8 C9"},
		"C20":    {"Object C1 C2 C3 C4 C5 C6 C7", "C8 C9 C10 C11 C12 C13 C14 C15 C16 C17 C18 C19 C20"},
	} {
		built(t, w, name, want[0], want[1], "")
	}
}

func TestBuildFollowsTheChainAlone(t *testing.T) { // P15.1: what stands beside and what arrived between is passed over
	w := worldOf(t, class("A", "Object"), class("X", "Object"), class("B", "A"), iface("I"), class("Y", "X"), class("C", "B"), class("Z", "B"))
	built(t, w, "A", "Object A", "", "")
	built(t, w, "C", "Object A B C", "", "")
	built(t, w, "Z", "Object A B Z", "", "")
	built(t, w, "Y", "Object X Y", "", "")
}

func TestBuildWithInterfaces(t *testing.T) { // P15.1
	classes := chainOf(9)
	classes[0].Ifaces = []string{"K", "J"}
	classes[6].Ifaces = []string{"M"}
	classes[7].Ifaces = []string{"I", "Serializable"}
	w := worldOf(t, append(list(iface("I"), iface("J", "I"), iface("K", "I"), iface("L", "K", "Cloneable", "J"), iface("M", "L")), classes...)...)
	whole := "Object C1 C2 C3 C4 C5 C6 C7"
	built(t, w, "C1", "Object C1", "", "I K J")
	built(t, w, "C6", "Object C1 C2 C3 C4 C5 C6", "", "I K J")
	built(t, w, "C7", whole, "", "I K J Cloneable L M")
	built(t, w, "C8", whole, "C8", "I K J Cloneable L M Serializable")
	built(t, w, "C9", whole, "C8 C9", "I K J Cloneable L M Serializable")
	// An interface has a chain of two, and is not among its own interfaces.
	built(t, w, "I", "Object I", "", "")
	built(t, w, "J", "Object J", "", "I")
	built(t, w, "L", "Object L", "", "I K Cloneable J")
	built(t, w, "M", "Object M", "", "I K Cloneable J L")
	built(t, w, "Serializable", "Object Serializable", "", "")
}

func TestOfClasses(t *testing.T) { // P15.2: one word, wherever the class stands, and whether it stands there or not
	classes := append(list(iface("I"), iface("J", "I")), chainOf(20)...)
	for n := range 4 { // a second chain that leaves the first below C6
		classes = append(classes, class(fmt.Sprint("D", n+7), []string{"C6", "D7", "D8", "D9"}[n], "J"))
	}
	classes = append(classes, class("E1", "Object"), class("E2", "E1", "I"))
	w := worldOf(t, classes...)
	for _, c := range []struct {
		s, t string
		want bool
	}{
		// In Primary: the first, in the middle, the last.
		{"C20", "Object", true}, {"C20", "C1", true}, {"C20", "C4", true}, {"C20", "C7", true}, {"C7", "C7", true}, {"C7", "C6", true}, {"Object", "Object", true}, {"I", "Object", true}, {"J", "Object", true},
		// In Deep: the first, in the middle, the last.
		{"C20", "C8", true}, {"C20", "C13", true}, {"C20", "C20", true}, {"C8", "C8", true}, {"C9", "C8", true}, {"C9", "C9", true}, {"D10", "D8", true}, {"D10", "D10", true}, {"D10", "D7", true}, {"D10", "C6", true},
		// At a depth that s has, where another stands: in Primary, and in Deep.
		{"C20", "E1", false}, {"C20", "E2", false}, {"E1", "C1", false}, {"E2", "C2", false}, {"D7", "C7", false}, {"C7", "D7", false}, {"D10", "C7", false}, {"C20", "D7", false}, {"D10", "C8", false}, {"C20", "D10", false}, {"D8", "C8", false}, {"D10", "C10", false}, {"I", "C1", false}, {"J", "E1", false},
		// At a depth that s lacks: in Primary, beyond it, and in Deep.
		{"Object", "C1", false}, {"Object", "C7", false}, {"Object", "C8", false}, {"Object", "C20", false}, {"C1", "C2", false}, {"C6", "C7", false}, {"C6", "C8", false}, {"C7", "C8", false}, {"C7", "C9", false}, {"C8", "C9", false}, {"C8", "C20", false}, {"C19", "C20", false}, {"D10", "C11", false}, {"E2", "C3", false}, {"E2", "C20", false}, {"I", "C2", false}, {"J", "C8", false}, {"Cloneable", "C20", false},
	} {
		tested(t, w, c.s, c.t, c.want, 1)
	}
}

func TestOfInterfaces(t *testing.T) { // P15.2
	w := worldOf(t,
		iface("I"), iface("J"), iface("K"), iface("L", "J", "I"), iface("M", "L", "K"), iface("N"),
		class("A", "Object", "K", "L"),    // K J I L
		class("B", "A", "I", "Cloneable"), // and Cloneable
		class("C", "B"),
		class("D", "Object", "N"), class("E", "Object"))
	for _, c := range []struct {
		s, t  string
		want  bool
		reads int
	}{
		// It is s itself.
		{"I", "I", true, 1}, {"L", "L", true, 1}, {"M", "M", true, 1}, {"Cloneable", "Cloneable", true, 1},
		// It stands first, in the middle, last.
		{"A", "K", true, 2}, {"A", "J", true, 3}, {"A", "I", true, 4}, {"A", "L", true, 5},
		{"B", "K", true, 2}, {"B", "L", true, 5}, {"B", "Cloneable", true, 6},
		{"C", "K", true, 2}, {"C", "I", true, 4}, {"C", "Cloneable", true, 6},
		{"D", "N", true, 2},
		{"L", "J", true, 2}, {"L", "I", true, 3},
		{"M", "J", true, 2}, {"M", "I", true, 3}, {"M", "L", true, 4}, {"M", "K", true, 5},
		// It is not there: all are looked at.
		{"A", "N", false, 5}, {"A", "M", false, 5}, {"A", "Cloneable", false, 5}, {"B", "N", false, 6}, {"C", "Serializable", false, 6}, {"D", "I", false, 2}, {"L", "K", false, 3}, {"L", "M", false, 3}, {"M", "N", false, 5},
		// Secondary is empty.
		{"E", "I", false, 1}, {"E", "M", false, 1}, {"Object", "I", false, 1}, {"Object", "Serializable", false, 1}, {"I", "J", false, 1}, {"I", "M", false, 1}, {"Cloneable", "Serializable", false, 1},
	} {
		tested(t, w, c.s, c.t, c.want, c.reads)
	}
}

func TestOfTypes(t *testing.T) { // P15.3
	w := worldOf(t, append(chainOf(9), iface("J"), iface("K", "J"), class("A", "C9", "K", "Cloneable"), class("I", "A"))...) // the class I has int's text as its name
	for _, c := range []struct {
		s, t  string
		want  bool
		reads int
	}{
		// int, and arrays over it.
		{"I", "I", true, 1}, {"[I", "[I", true, 1}, {"[[I", "[[I", true, 1}, {"I", "[I", false, 1}, {"[I", "I", false, 1}, {"[[I", "[I", false, 1}, {"[I", "[[I", false, 1},
		{"I", "LObject;", false, 1}, {"LObject;", "I", false, 1}, {"I", "LCloneable;", false, 1}, {"LI;", "I", false, 1}, {"I", "LI;", false, 1}, {"LA;", "[I", false, 1}, {"LK;", "I", false, 1}, {"I", "LK;", false, 1},
		{"[I", "[LObject;", false, 1}, {"[LObject;", "[I", false, 1}, {"[I", "[LCloneable;", false, 1}, {"[LA;", "[I", false, 1}, {"[I", "[LI;", false, 1}, {"[LI;", "[I", false, 1},
		{"[I", "LObject;", true, 1}, {"[I", "LCloneable;", true, 1}, {"[I", "LSerializable;", true, 1}, {"[I", "LK;", false, 1}, {"[I", "LA;", false, 1}, {"[I", "LI;", false, 1},
		{"[[I", "[LObject;", true, 1}, {"[[I", "[LCloneable;", true, 1}, {"[[I", "[LSerializable;", true, 1}, {"[[I", "[[LObject;", false, 1}, {"[[I", "LObject;", true, 1}, {"[[I", "[LK;", false, 1}, {"[[[I", "[LCloneable;", true, 1},
		// Class types, of equal dimensions: as Test.
		{"LA;", "LC9;", true, 1}, {"LC9;", "LA;", false, 1}, {"LA;", "LJ;", true, 2}, {"LA;", "LK;", true, 3}, {"LA;", "LCloneable;", true, 4}, {"LA;", "LSerializable;", false, 4}, {"LK;", "LK;", true, 1}, {"LK;", "LJ;", true, 2}, {"LJ;", "LK;", false, 1},
		{"[LA;", "[LC9;", true, 1}, {"[LC9;", "[LA;", false, 1}, {"[LA;", "[LK;", true, 3}, {"[LA;", "[LObject;", true, 1}, {"[[LA;", "[[LCloneable;", true, 4}, {"[[LA;", "[[LSerializable;", false, 4}, {"[[LK;", "[[LK;", true, 1}, {"[LI;", "[LA;", true, 1}, {"[LI;", "[LK;", true, 3}, {"[LI;", "[LI;", true, 1},
		// An array where a class type is asked for: one word, even for an interface.
		{"[LA;", "LObject;", true, 1}, {"[LA;", "LCloneable;", true, 1}, {"[LA;", "LSerializable;", true, 1}, {"[LA;", "LK;", false, 1}, {"[LA;", "LA;", false, 1}, {"[[LA;", "[LCloneable;", true, 1}, {"[[LA;", "[LA;", false, 1}, {"[[[LA;", "[LK;", false, 1}, {"[[[LK;", "[LSerializable;", true, 1}, {"[LCloneable;", "LCloneable;", true, 1},
		// And the other way round.
		{"LObject;", "[LObject;", false, 1}, {"LA;", "[LA;", false, 1}, {"[LA;", "[[LA;", false, 1}, {"LCloneable;", "[I", false, 1}, {"[LObject;", "[[I", false, 1}, {"LK;", "[LJ;", false, 1}, {"[LCloneable;", "[[[LK;", false, 1},
	} {
		typesTested(t, w, typeOf(t, c.s), typeOf(t, c.t), c.want, c.reads)
	}
}

func TestOfTypesOfManyDimensions(t *testing.T) { // P15.3: MaxDims, and one fewer, on either side
	w := worldOf(t, iface("J"), iface("K", "J"), class("A", "Object", "K"))
	for _, c := range []struct {
		s, t  api.Type
		want  bool
		reads int
	}{
		{kind(255, "A"), kind(255, "K"), true, 3}, {kind(254, "A"), kind(254, "J"), true, 2}, {kind(255, "A"), kind(255, "Cloneable"), false, 3}, {kind(255, "A"), kind(255, "A"), true, 1},
		{kind(255, "A"), kind(254, "Cloneable"), true, 1}, {kind(255, "A"), kind(254, "K"), false, 1}, {kind(254, "A"), kind(255, "K"), false, 1}, {kind(255, "A"), kind(0, "Object"), true, 1}, {kind(0, "A"), kind(255, "A"), false, 1},
		{kind(255, ""), kind(255, ""), true, 1}, {kind(255, ""), kind(254, ""), false, 1}, {kind(254, ""), kind(255, ""), false, 1}, {kind(255, ""), kind(254, "Serializable"), true, 1}, {kind(255, ""), kind(255, "Serializable"), false, 1}, {kind(255, "A"), kind(255, ""), false, 1}, {kind(0, ""), kind(255, ""), false, 1}, {kind(255, ""), kind(0, ""), false, 1},
	} {
		typesTested(t, w, c.s, c.t, c.want, c.reads)
	}
}

func TestDeepest(t *testing.T) { // P15.4
	w := hier.New()
	deepestIs(t, w, 1)
	for _, c := range []struct {
		class api.Class
		want  int
	}{
		{class("A", "Object"), 1}, {iface("I"), 1}, {iface("J", "I"), 1}, {iface("K", "J"), 1}, // interfaces above are no depth
		{class("B", "A"), 2}, {class("C", "Object", "K"), 2}, {class("D", "C"), 2}, {class("E", "B"), 3}, {class("F", "D"), 3}, {class("G", "F"), 4}, {class("H", "A"), 4}, {class("L", "Object"), 4}, {iface("M"), 4}, {class("N", "G"), 5},
	} {
		define(t, w, c.class)
		deepestIs(t, w, c.want)
	}
	if _, e := w.Define(class("O", "Missing")); e != api.NoClassDef {
		t.Fatalf("Define: %d", e)
	}
	deepestIs(t, w, 5)
}

func TestDeepestBeyondThePrimary(t *testing.T) { // P15.4: around DisplayDepth, and to the end of a world
	w := hier.New()
	for n, c := range chainOf(api.MaxClasses - 3) {
		define(t, w, c)
		deepestIs(t, w, n+1)
	}
}

func TestNoNumbers(t *testing.T) { // P15.1, P15.2: at both edges and one beyond, on each side and on both
	w := worldOf(t, iface("I"), class("A", "Object", "I"), class("B", "A"))
	for _, odd := range append([]int{w.Len(), w.Len() + 1}, oddNumbers...) {
		buildRefused(t, w, api.ErrRange, odd)
		for id := range w.Len() {
			testRefused(t, w, api.ErrRange, id, odd)
			testRefused(t, w, api.ErrRange, odd, id)
		}
		for _, other := range append([]int{odd, w.Len()}, oddNumbers...) {
			testRefused(t, w, api.ErrRange, odd, other)
		}
	}
	built(t, w, "Object", "Object", "", "")
	built(t, w, "B", "Object A B", "", "I")
	tested(t, w, "B", "B", true, 1)
	tested(t, w, "B", "Object", true, 1)
	tested(t, w, "Object", "B", false, 1)
}

// unsound and absent are types at fault: not sound, and sound ones whose class is not loaded.
func unsound() []api.Type {
	return []api.Type{kind(-1, ""), kind(-1, "Object"), kind(256, ""), kind(256, "Object"), kind(math.MinInt, "A"), kind(math.MaxInt, "A"), kind(1<<32, "A"), kind(0, "1"), kind(1, "[I"), kind(0, "LObject;"), kind(0, "p/"), kind(0, "\xff"), kind(0, strings.Repeat("n", api.MaxName+1)), kind(-1, "1"), kind(256, "no/Such"), kind(0, strings.Repeat("n", 100000))}
}

func absent() []api.Type {
	return []api.Type{kind(0, "no/Such"), kind(1, "no/Such"), kind(255, "no/Such"), kind(0, "object"), kind(0, "Objec"), kind(1, "Object2"), kind(0, strings.Repeat("n", api.MaxName))}
}

func TestTypesAtFault(t *testing.T) { // P15.3, R2: on each side and on both; the error of s is looked for ahead of that of t
	w := worldOf(t, iface("I"), class("A", "Object", "I"))
	good := []api.Type{kind(0, ""), kind(1, ""), kind(255, ""), kind(0, "A"), kind(0, "I"), kind(2, "A"), kind(255, "Object")}
	for _, bad := range unsound() {
		for _, other := range append(append(unsound(), absent()...), good...) {
			typesRefused(t, w, api.ErrForm, bad, other)
		}
		for _, other := range good {
			typesRefused(t, w, api.ErrForm, other, bad)
		}
	}
	for _, bad := range absent() {
		for _, other := range append(append(unsound(), absent()...), good...) {
			typesRefused(t, w, api.NoClassDef, bad, other)
		}
		for _, other := range good {
			typesRefused(t, w, api.NoClassDef, other, bad)
		}
	}
}

func TestNilWorld(t *testing.T) { // P15.1 to P15.4, R6: ahead of every other error
	ids := append([]int{0, 1, 2, 3}, oddNumbers...)
	for _, id := range ids {
		buildRefused(t, nil, api.ErrArg, id)
		for _, other := range ids {
			testRefused(t, nil, api.ErrArg, id, other)
		}
	}
	all := append(append(unsound(), absent()...), kind(0, ""), kind(1, ""), kind(0, "Object"), kind(1, "Object"))
	for _, a := range all {
		for _, b := range all {
			typesRefused(t, nil, api.ErrArg, a, b)
		}
	}
	if got, e := Deepest(nil); got != 0 || e != api.ErrArg {
		t.Errorf("Deepest(nil) = %d, %d", got, e)
	}
}

// TestWorldThatNewDidNotMake: it has no class, so no number is one, and int alone is loaded.
func TestWorldThatNewDidNotMake(t *testing.T) { // P0.1
	w := &hier.World{}
	for _, id := range append([]int{0, 1}, oddNumbers...) {
		buildRefused(t, w, api.ErrRange, id)
		testRefused(t, w, api.ErrRange, id, id)
		testRefused(t, w, api.ErrRange, 0, id)
	}
	typesRefused(t, w, api.NoClassDef, kind(0, "Object"), kind(0, ""))
	typesRefused(t, w, api.NoClassDef, kind(1, ""), kind(0, "Object"))
	typesTested(t, w, kind(1, ""), kind(1, ""), true, 1)
	deepestIs(t, w, 0)
}

func TestLongestChain(t *testing.T) { // P15.1 to P15.4: with as many classes as a world takes
	w := worldOf(t, chainOf(api.MaxClasses-3)...)
	last := w.Len() - 1
	down := []int{0}
	for id := 3; id <= last; id++ {
		down = append(down, id)
	}
	for depth, id := range down {
		cut := min(depth+1, 8)
		want := api.Display{Primary: down[:cut], Deep: down[cut : depth+1]}
		if got, e := Build(w, id); !same(got, want) || e != api.OK {
			t.Fatalf("Build(%d) = %v, %d, want %v", id, got, e, want)
		}
		if got, n, e := Test(w, last, id); !got || n != 1 || e != api.OK {
			t.Errorf("Test(%d, %d) = %v, %d, %d", last, id, got, n, e)
		}
		if got, n, e := Test(w, id, last); got != (id == last) || n != 1 || e != api.OK {
			t.Errorf("Test(%d, %d) = %v, %d, %d", id, last, got, n, e)
		}
	}
	buildRefused(t, w, api.ErrRange, last+1)
	deepestIs(t, w, 297)
}

func TestLongestClosure(t *testing.T) { // P15.1 to P15.3: interfaces, each below the one ahead of it, and a class below all
	classes := list(iface("I0"))
	for n := range api.MaxClasses - 6 {
		classes = append(classes, iface(fmt.Sprint("I", n+1), fmt.Sprint("I", n)))
	}
	above := classes[len(classes)-1].Name
	w := worldOf(t, append(classes, class("A", "Object", above), class("B", "Object"))...)
	a := number(t, w, "A")
	d, e := Build(w, a)
	if e != api.OK || len(d.Secondary) != len(classes) || !slices.Equal(d.Primary, []int{0, a}) || len(d.Deep) != 0 {
		t.Fatalf("Build(A) = %v, %d", d, e)
	}
	for place, c := range classes {
		id := place + 3
		if d.Secondary[place] != id {
			t.Fatalf("Secondary[%d] = %d", place, d.Secondary[place])
		}
		tested(t, w, "A", c.Name, true, place+2)
		tested(t, w, "B", c.Name, false, 1)
	}
	tested(t, w, "A", "Cloneable", false, len(classes)+1)
	deepestIs(t, w, 1)
}
