package heap

import (
	"math"
	"reflect"
	"strings"
	"testing"

	"arbiter/api"
	"arbiter/hier"
	"arbiter/link"
)

const least, greatest = math.MinInt, math.MaxInt

// The classes of the sample world, by their numbers.
const (
	classObject = iota
	ifaceCloneable
	ifaceSerializable
	ifaceI
	classA
	classB
	classC
	abstractD
	classE
	ifaceJ
	classF
	sampleSize
)

// oddNumbers are numbers of no class, and of no object but of a heap that is full.
var oddNumbers = []int{-1, -2, least, least + 1, greatest, greatest - 1, 1001, 1 << 32, 1<<32 + 1, -1 << 32, -1<<32 + 1, math.MinInt32, math.MaxInt32}

var (
	intType  = api.Type{}
	intArray = kind(1, "")
	intGrid  = kind(2, "")
	intCube  = kind(3, "")
)

func kind(dims int, name string) api.Type {
	return api.Type{Dims: dims, Name: name}
}

// unsound are types of no form, of which some have the name of a class that is there.
func unsound() []api.Type {
	return []api.Type{kind(-1, ""), kind(256, ""), kind(-1, "A"), kind(256, "A"), kind(least, ""), kind(greatest, "A"), kind(0, "1"), kind(1, "A;"), kind(1, "/A"), kind(255, "A/"), kind(1<<32, ""), kind(-1<<32+1, "A"), kind(0, strings.Repeat("A", 61)), kind(1, " ")}
}

// unloaded are sound types over classes that are not there.
func unloaded() []api.Type {
	return []api.Type{kind(0, "no/Such"), kind(1, "no/Such"), kind(254, "no/Such"), kind(0, "a"), kind(1, "V"), kind(2, strings.Repeat("A", 60))}
}

func class(name, super string, ifaces ...string) api.Class {
	return api.Class{Name: name, Super: super, Flags: api.Public | api.Super, Ifaces: ifaces}
}

func iface(name string, ifaces ...string) api.Class {
	return api.Class{Name: name, Super: "Object", Flags: api.Public | api.Interface | api.AbstractFl, Ifaces: ifaces}
}

func flagged(c api.Class, flags int) api.Class {
	c.Flags = flags
	return c
}

// sampleClasses have B and, by way of the abstract D, E below A, which is of I; C and F are below nothing but Object and Cloneable, and F is no class that others see.
func sampleClasses() []api.Class {
	return []api.Class{
		iface("I"),
		class("A", "Object", "I"),
		class("B", "A"),
		class("C", "Object", "Cloneable"),
		flagged(class("D", "A"), api.Public|api.Super|api.AbstractFl),
		class("E", "D", "Serializable"),
		iface("J", "I"),
		flagged(class("q/F", "Object"), api.Final),
	}
}

func define(t *testing.T, w *hier.World, c api.Class) int {
	t.Helper()
	id, e := w.Define(c)
	if e != api.OK {
		t.Fatalf("Define(%+v): %d", c, e)
	}
	return id
}

func linkerOf(t *testing.T, classes ...api.Class) *link.Linker {
	t.Helper()
	w := hier.New()
	for _, c := range classes {
		define(t, w, c)
	}
	l, e := link.New(w)
	if e != api.OK {
		t.Fatalf("link.New: %d", e)
	}
	return l
}

func newHeap(t *testing.T, l *link.Linker) *Heap {
	t.Helper()
	h, e := New(l)
	if h == nil || e != api.OK {
		t.Fatalf("New = %v, %d", h, e)
	}
	return h
}

// sample is an empty heap for the sample world.
func sample(t *testing.T) *Heap {
	t.Helper()
	return newHeap(t, linkerOf(t, sampleClasses()...))
}

// ref hands on the number of what was made.
func ref(t *testing.T) func(number int, e api.Errno) int {
	return func(number int, e api.Errno) int {
		t.Helper()
		if number < 1 || e != api.OK {
			t.Fatalf("the answer is %d, %d, want a number", number, e)
		}
		return number
	}
}

// fact is all that a heap answers about one object.
type fact struct {
	kind     api.Type
	isArray  bool
	elements []api.Value
}

// facts are all that a heap answers, asked by its calls, each at the edges and beyond.
func facts(t *testing.T, h *Heap) []fact {
	t.Helper()
	var out []fact
	words := 0
	for number := 1; number <= h.Len(); number++ {
		x, e := h.TypeOf(number)
		if e != api.OK {
			t.Fatalf("TypeOf(%d): %d", number, e)
		}
		f := fact{kind: x, isArray: x.Dims > 0}
		n, e := h.Length(number)
		if f.isArray != (e == api.OK) || !f.isArray && (n != 0 || e != api.ErrArg) {
			t.Fatalf("Length(%d) = %d, %d of %v", number, n, e, x)
		}
		for i := range n {
			v, e := h.Get(number, i)
			if e != api.OK || v.Ref != (x != kind(1, "")) {
				t.Fatalf("Get(%d, %d) = %v, %d of %v", number, i, v, e, x)
			}
			f.elements = append(f.elements, v)
		}
		words += n
		out = append(out, f)
	}
	for _, number := range []int{-1, h.Len() + 1} {
		if x, e := h.TypeOf(number); x != intType || e != api.ErrRange {
			t.Fatalf("TypeOf(%d) = %v, %d of %d objects", number, x, e, h.Len())
		}
	}
	if h.Words() != words {
		t.Fatalf("Words() = %d, where the lengths together are %d", h.Words(), words)
	}
	return out
}

// sizes are the two numbers that a heap is bounded by.
func sizes(t *testing.T, h *Heap, objects, words int) {
	t.Helper()
	if h.Len() != objects || h.Words() != words {
		t.Errorf("Len() = %d, Words() = %d, want %d, %d", h.Len(), h.Words(), objects, words)
	}
}

// makes expects the number that comes next, and what that many more objects and words add.
func makes(t *testing.T, h *Heap, objects, words int, what string, call func() (int, api.Errno)) int {
	t.Helper()
	wantObjects, wantWords := h.Len()+objects, h.Words()+words
	want := h.Len() + 1
	if got, e := call(); got != want || e != api.OK {
		t.Errorf("%s = %d, %d, want %d", what, got, e, want)
	}
	sizes(t, h, wantObjects, wantWords)
	return want
}

// refuses expects an error and a heap that is as it was.
func refuses(t *testing.T, h *Heap, want api.Errno, what string, call func() (int, api.Errno)) {
	t.Helper()
	before := facts(t, h)
	if got, e := call(); got != 0 || e != want {
		t.Errorf("%s = %d, %d, want 0, %d", what, got, e, want)
	}
	if behind := facts(t, h); !reflect.DeepEqual(behind, before) {
		t.Errorf("%s was refused and turned the heap of %d objects into one of %d", what, len(before), len(behind))
	}
}

func makesObject(t *testing.T, h *Heap, class int) int {
	t.Helper()
	return makes(t, h, 1, 0, show("Object", class), func() (int, api.Errno) { return h.Object(class) })
}

func refusesObject(t *testing.T, h *Heap, want api.Errno, class int) {
	t.Helper()
	refuses(t, h, want, show("Object", class), func() (int, api.Errno) { return h.Object(class) })
}

func makesArray(t *testing.T, h *Heap, elem api.Type, n int) int {
	t.Helper()
	return makes(t, h, 1, n, show("Array", elem, n), func() (int, api.Errno) { return h.Array(elem, n) })
}

func refusesArray(t *testing.T, h *Heap, want api.Errno, elem api.Type, n int) {
	t.Helper()
	refuses(t, h, want, show("Array", elem, n), func() (int, api.Errno) { return h.Array(elem, n) })
}

func typeIs(t *testing.T, h *Heap, ref int, want api.Type) {
	t.Helper()
	if got, e := h.TypeOf(ref); got != want || e != api.OK {
		t.Errorf("TypeOf(%d) = %v, %d, want %v", ref, got, e, want)
	}
}

func lengthIs(t *testing.T, h *Heap, ref, want int) {
	t.Helper()
	if got, e := h.Length(ref); got != want || e != api.OK {
		t.Errorf("Length(%d) = %d, %d, want %d", ref, got, e, want)
	}
}

func typeRefused(t *testing.T, h *Heap, want api.Errno, refs ...int) {
	t.Helper()
	for _, ref := range refs {
		if got, e := h.TypeOf(ref); got != intType || e != want {
			t.Errorf("TypeOf(%d) = %v, %d, want %d", ref, got, e, want)
		}
	}
}

func lengthRefused(t *testing.T, h *Heap, want api.Errno, refs ...int) {
	t.Helper()
	for _, ref := range refs {
		if got, e := h.Length(ref); got != 0 || e != want {
			t.Errorf("Length(%d) = %d, %d, want %d", ref, got, e, want)
		}
	}
}

// fillUp makes objects until there are that many.
func fillUp(t *testing.T, h *Heap, objects int) {
	t.Helper()
	for h.Len() < objects {
		ref(t)(h.Object(classObject))
	}
}

func TestExamples(t *testing.T) { // the chapter's examples
	h := sample(t) // 1
	for want := 1; want <= 2; want++ {
		if got := makesObject(t, h, 0); got != want {
			t.Errorf("Object(0) = %d, want %d", got, want)
		}
	}
	refusesObject(t, h, api.Instantiation, 1)
	typeIs(t, h, 1, kind(0, "Object"))
	typeRefused(t, h, api.NullPointer, 0)
	typeRefused(t, h, api.ErrRange, 9)

	h = sample(t) // 2
	makesArray(t, h, intType, 3)
	lengthIs(t, h, 1, 3)
	valueIs(t, h, 1, 2, number(0))
	getRefused(t, h, api.IndexBounds, 1, 3)
	refusesArray(t, h, api.NegativeSize, intType, -1)
	refusesArray(t, h, api.OutOfMemory, intType, 20001)

	h = sample(t) // 3
	makesMulti(t, h, 3, 8, intGrid, 2, 3)
	valueIs(t, h, 1, 0, to(2))
	valueIs(t, h, 1, 1, to(3))
	sizes(t, h, 3, 8)
	alone := makesMulti(t, h, 1, 2, intGrid, 2)
	valueIs(t, h, alone, 0, to(0))
	valueIs(t, h, alone, 1, to(0))
	makesMulti(t, h, 1, 0, intGrid, 0, 5)

	h = sample(t) // 4
	list := makesArray(t, h, kind(0, "A"), 1)
	other := makesObject(t, h, classC)
	setRefused(t, h, api.ArrayStore, list, 0, to(other))
	sets(t, h, list, 0, to(0))
	setRefused(t, h, api.Malformed, list, 0, number(0))

	h = sample(t) // 5
	refusesMulti(t, h, api.OutOfMemory, intGrid, 1000, 1)
}

func TestNew(t *testing.T) { // P20.1
	if h, e := New(nil); h != nil || e != api.ErrArg {
		t.Errorf("New(nil) = %v, %d", h, e)
	}
	l := linkerOf(t, sampleClasses()...)
	h := newHeap(t, l)
	sizes(t, h, 0, 0)
	typeRefused(t, h, api.ErrRange, 1, 2, -1)
	typeRefused(t, h, api.NullPointer, 0)
	if got := makesObject(t, h, classB); got != 1 {
		t.Errorf("the first object is %d", got)
	}
	if l.Builds() != 0 {
		t.Errorf("the heap has had %d classes' tables built", l.Builds())
	}
}

func TestHeapsStandAlone(t *testing.T) { // P20.1: also those of one linker
	l := linkerOf(t, sampleClasses()...)
	x, y := newHeap(t, l), newHeap(t, l)
	makesArray(t, x, intType, 3)
	sets(t, x, 1, 0, number(7))
	sizes(t, y, 0, 0)
	typeRefused(t, y, api.ErrRange, 1)
	makesArray(t, y, kind(0, "A"), 2)
	typeIs(t, x, 1, intArray)
	typeIs(t, y, 1, kind(1, "A"))
	valueIs(t, y, 1, 0, to(0))
	sizes(t, x, 1, 3)
	fillUp(t, x, api.MaxObjects)
	makesObject(t, y, classA)
}

func TestObject(t *testing.T) { // P20.2
	h := sample(t)
	names := map[int]string{classObject: "Object", classA: "A", classB: "B", classC: "C", classE: "E", classF: "q/F"}
	for id := range sampleSize {
		name, there := names[id]
		if !there {
			refusesObject(t, h, api.Instantiation, id)
			continue
		}
		typeIs(t, h, makesObject(t, h, id), kind(0, name))
	}
	for _, id := range append([]int{-1, sampleSize, sampleSize + 1, api.MaxClasses}, oddNumbers...) {
		refusesObject(t, h, api.ErrRange, id)
	}
	sizes(t, h, len(names), 0)
}

func TestObjectsOfTheEdges(t *testing.T) { // P20.2: the last class of a full world
	var classes []api.Class
	for at := range api.MaxClasses - 3 {
		classes = append(classes, class("C"+strings.Repeat("x", at/50)+string(rune('A'+at%50/2))+string(rune('a'+at%2)), "Object"))
	}
	h := newHeap(t, linkerOf(t, classes...))
	typeIs(t, h, makesObject(t, h, 0), kind(0, "Object"))
	typeIs(t, h, makesObject(t, h, 3), kind(0, classes[0].Name))
	typeIs(t, h, makesObject(t, h, 299), kind(0, classes[296].Name))
	refusesObject(t, h, api.ErrRange, 300)
	refusesObject(t, h, api.ErrRange, -1)
}

func TestObjectAtTheBound(t *testing.T) { // P20.2
	h := sample(t)
	fillUp(t, h, 998)
	if got := makesObject(t, h, classA); got != 999 {
		t.Errorf("the number is %d", got)
	}
	if got := makesObject(t, h, classB); got != 1000 {
		t.Errorf("the number is %d", got)
	}
	for _, id := range []int{classObject, classA, classF} {
		refusesObject(t, h, api.OutOfMemory, id)
	}
	for _, id := range []int{ifaceCloneable, ifaceI, abstractD, ifaceJ} { // the order of the errors
		refusesObject(t, h, api.Instantiation, id)
	}
	for _, id := range []int{-1, sampleSize, greatest} {
		refusesObject(t, h, api.ErrRange, id)
	}
	typeIs(t, h, 1000, kind(0, "B"))
	typeRefused(t, h, api.ErrRange, 1001)
}

func TestObjectIsBoundedByObjectsAlone(t *testing.T) { // P20.2: as many words as there may be leave room for objects
	h := sample(t)
	makesArray(t, h, intType, api.MaxHeapWords)
	makesObject(t, h, classA)
	fillUp(t, h, 1000)
	refusesObject(t, h, api.OutOfMemory, classA)
}

func TestArraysCountAsObjects(t *testing.T) { // P20.2, P20.3, P20.4
	h := sample(t)
	for h.Len() < 999 {
		makesArray(t, h, kind(0, "A"), 0)
	}
	if got := makesObject(t, h, classA); got != 1000 {
		t.Errorf("the number is %d", got)
	}
	refusesObject(t, h, api.OutOfMemory, classA)
	refusesArray(t, h, api.OutOfMemory, intType, 0)
	refusesMulti(t, h, api.OutOfMemory, intArray, 0)
}

func TestArray(t *testing.T) { // P20.3
	for _, elem := range []api.Type{intType, intArray, intCube, kind(0, "A"), kind(0, "I"), kind(0, "D"), kind(0, "Cloneable"), kind(0, "Object"), kind(1, "A"), kind(2, "J"), kind(0, "q/F"), kind(254, ""), kind(254, "B"), kind(254, "I")} {
		h := sample(t)
		for _, n := range []int{0, 1, 2, 100} {
			a := makesArray(t, h, elem, n)
			typeIs(t, h, a, kind(elem.Dims+1, elem.Name))
			lengthIs(t, h, a, n)
			for i := range n {
				valueIs(t, h, a, i, api.Value{Ref: elem != intType})
			}
		}
	}
}

func TestArrayOfEachDimension(t *testing.T) { // P20.3
	for _, name := range []string{"", "A", "I", "Object"} {
		h := sample(t)
		for dims := range 255 {
			a := makesArray(t, h, kind(dims, name), 1)
			typeIs(t, h, a, kind(dims+1, name))
			valueIs(t, h, a, 0, api.Value{Ref: dims > 0 || name != ""})
		}
		refusesArray(t, h, api.ErrLarge, kind(255, name), 1)
		refusesArray(t, h, api.ErrForm, kind(256, name), 1)
		refusesArray(t, h, api.ErrForm, kind(-1, name), 1)
		makesArray(t, h, kind(254, name), 0)
	}
}

func TestArrayRefusesTypes(t *testing.T) { // P20.3
	h := sample(t)
	makesArray(t, h, intType, 2)
	for _, n := range []int{0, 1, -1, 20001, least, greatest} { // whatever n is: the order of the errors
		for _, x := range unsound() {
			refusesArray(t, h, api.ErrForm, x, n)
		}
		for _, x := range unloaded() {
			refusesArray(t, h, api.NoClassDef, x, n)
		}
		refusesArray(t, h, api.ErrLarge, kind(255, ""), n)
		refusesArray(t, h, api.ErrLarge, kind(255, "A"), n)
		refusesArray(t, h, api.ErrLarge, kind(255, "no/Such"), n)
	}
	if got := makesArray(t, h, intType, 1); got != 2 {
		t.Errorf("the number behind refused calls is %d", got)
	}
}

func TestArrayRefusesCounts(t *testing.T) { // P20.3
	for _, elem := range []api.Type{intType, kind(0, "A"), intGrid} {
		h := sample(t)
		for _, n := range []int{-1, -2, -20001, least, least + 1, math.MinInt32, -1 << 32} {
			refusesArray(t, h, api.NegativeSize, elem, n)
		}
		for _, n := range []int{20001, 20002, greatest, greatest - 1, math.MaxInt32, 1 << 32, 1<<32 + 1, 1 << 62} {
			refusesArray(t, h, api.OutOfMemory, elem, n)
		}
		makesArray(t, h, elem, 20000)
		refusesArray(t, h, api.OutOfMemory, elem, 1)
		refusesArray(t, h, api.OutOfMemory, elem, greatest) // words and n together would be below 0
		refusesArray(t, h, api.OutOfMemory, elem, greatest-19999)
		refusesArray(t, h, api.NegativeSize, elem, -1)
		refusesArray(t, h, api.NegativeSize, elem, -20000)
		makesArray(t, h, elem, 0)
	}
}

func TestArrayAtTheBoundOfWords(t *testing.T) { // P20.3
	h := sample(t)
	makesArray(t, h, intType, 12000)
	makesArray(t, h, kind(0, "A"), 7000)
	refusesArray(t, h, api.OutOfMemory, intType, 1001)
	refusesArray(t, h, api.OutOfMemory, intType, greatest)
	makesArray(t, h, intType, 999)
	refusesArray(t, h, api.OutOfMemory, intGrid, 2)
	makesArray(t, h, intGrid, 1)
	refusesArray(t, h, api.OutOfMemory, intGrid, 1)
	makesArray(t, h, intGrid, 0)
	sizes(t, h, 5, 20000)
}

func TestArrayAtTheBoundOfObjects(t *testing.T) { // P20.3
	h := sample(t)
	fillUp(t, h, 999)
	if got := makesArray(t, h, intType, 5); got != 1000 {
		t.Errorf("the number is %d", got)
	}
	for _, n := range []int{0, 1, 19995, 19996, greatest} {
		refusesArray(t, h, api.OutOfMemory, intType, n)
	}
	refusesArray(t, h, api.NegativeSize, intType, -1) // the order of the errors
	refusesArray(t, h, api.NoClassDef, kind(0, "no/Such"), 0)
	refusesArray(t, h, api.ErrLarge, kind(255, ""), 0)
	refusesArray(t, h, api.ErrForm, kind(256, ""), 0)
	sizes(t, h, 1000, 5)
}

func TestClassesThatArrive(t *testing.T) { // P20.2 to P20.4, P20.7: the linker's world as it now is
	l := linkerOf(t)
	h := newHeap(t, l)
	refusesObject(t, h, api.ErrRange, 3)
	refusesArray(t, h, api.NoClassDef, kind(0, "A"), 1)
	refusesMulti(t, h, api.NoClassDef, kind(1, "A"), 1)
	define(t, l.World(), class("A", "Object"))
	typeIs(t, h, makesObject(t, h, 3), kind(0, "A"))
	list := makesArray(t, h, kind(0, "A"), 1)
	typeIs(t, h, makesMulti(t, h, 1, 1, kind(1, "A"), 1), kind(1, "A"))
	refusesObject(t, h, api.ErrRange, 4)
	define(t, l.World(), class("B", "A"))
	define(t, l.World(), class("C", "Object"))
	sets(t, h, list, 0, to(makesObject(t, h, 4)))
	setRefused(t, h, api.ArrayStore, list, 0, to(makesObject(t, h, 5)))
	typeIs(t, h, 1, kind(0, "A"))
}

func TestTypeOfAndLength(t *testing.T) { // P20.5
	h := sample(t)
	typeRefused(t, h, api.NullPointer, 0)
	lengthRefused(t, h, api.NullPointer, 0)
	typeRefused(t, h, api.ErrRange, append([]int{1}, oddNumbers...)...)
	lengthRefused(t, h, api.ErrRange, append([]int{1}, oddNumbers...)...)
	makesObject(t, h, classA)
	makesArray(t, h, intType, 0)
	makesArray(t, h, kind(1, "I"), 7)
	makesObject(t, h, classF)
	typeIs(t, h, 1, kind(0, "A"))
	typeIs(t, h, 2, intArray)
	typeIs(t, h, 3, kind(2, "I"))
	typeIs(t, h, 4, kind(0, "q/F"))
	lengthRefused(t, h, api.ErrArg, 1, 4)
	lengthIs(t, h, 2, 0)
	lengthIs(t, h, 3, 7)
	typeRefused(t, h, api.NullPointer, 0)
	lengthRefused(t, h, api.NullPointer, 0)
	typeRefused(t, h, api.ErrRange, append([]int{5, 6}, oddNumbers...)...)
	lengthRefused(t, h, api.ErrRange, append([]int{5, 6}, oddNumbers...)...)
	sizes(t, h, 4, 7)
}

func TestTypeOfAndLengthInAFullHeap(t *testing.T) { // P20.5
	h := sample(t)
	fillUp(t, h, 999)
	makesArray(t, h, kind(0, "A"), 20000)
	typeIs(t, h, 1000, kind(1, "A"))
	lengthIs(t, h, 1000, 20000)
	lengthRefused(t, h, api.ErrArg, 1, 999)
	typeRefused(t, h, api.ErrRange, oddNumbers...)
	lengthRefused(t, h, api.ErrRange, oddNumbers...)
}

func TestLenAndWords(t *testing.T) { // P20.8: each kind of call, made and refused
	h := sample(t)
	sizes(t, h, 0, 0)
	makesObject(t, h, classA)
	sizes(t, h, 1, 0)
	makesArray(t, h, intType, 3)
	sizes(t, h, 2, 3)
	makesArray(t, h, kind(0, "A"), 0)
	sizes(t, h, 3, 3)
	makesMulti(t, h, 3, 6, kind(2, "A"), 2, 2)
	sizes(t, h, 6, 9)
	sets(t, h, 2, 0, number(9))
	sets(t, h, 4, 0, to(0))
	sizes(t, h, 6, 9)
	refusesObject(t, h, api.ErrRange, -1)
	refusesArray(t, h, api.NegativeSize, intType, -1)
	refusesMulti(t, h, api.OutOfMemory, intGrid, 3, 20000)
	sizes(t, h, 6, 9)
}

// calls are all calls of a heap, with arguments that it could take, and their error.
func calls(h *Heap) map[string]api.Errno {
	out := map[string]api.Errno{}
	keep := func(name string, isZero bool, e api.Errno) {
		if !isZero {
			name += " with an answer"
		}
		out[name] = e
	}
	for _, n := range []int{0, 1, -1, 3, greatest, least} {
		made, e := h.Object(n)
		keep(show("Object", n), made == 0, e)
		made, e = h.Array(intType, n)
		keep(show("Array", n), made == 0, e)
		made, e = h.Array(kind(-1, "?"), n)
		keep(show("Array of no type", n), made == 0, e)
		made, e = h.Multi(intGrid, []int{n})
		keep(show("Multi", n), made == 0, e)
		made, e = h.Multi(kind(-1, "?"), nil)
		keep("Multi of no type", made == 0, e)
		x, e := h.TypeOf(n)
		keep(show("TypeOf", n), x == intType, e)
		length, e := h.Length(n)
		keep(show("Length", n), length == 0, e)
		v, e := h.Get(n, 0)
		keep(show("Get", n), v == api.Value{}, e)
		keep(show("Set", n), true, h.Set(n, 0, number(n)))
		keep(show("Set to", n), true, h.Set(n, 0, to(n)))
	}
	return out
}

func TestNilHeap(t *testing.T) { // R6: each call, and ahead of each other error
	var h *Heap
	for name, e := range calls(h) {
		if e != api.ErrArg || strings.HasSuffix(name, "with an answer") {
			t.Errorf("%s on a nil Heap: %d", name, e)
		}
	}
	sizes(t, h, 0, 0)
}

func TestHeapsWithoutAWorld(t *testing.T) { // P0.1: of these the document does not speak, but no call panics
	h, _ := New(&link.Linker{})
	for _, h := range []*Heap{h, {}} {
		for name := range calls(h) {
			if strings.HasSuffix(name, "with an answer") {
				t.Errorf("%s in a heap without a world", name)
			}
		}
		sizes(t, h, 0, 0)
	}
}
