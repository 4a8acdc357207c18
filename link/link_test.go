package link

import (
	"fmt"
	"math"
	"slices"
	"strings"
	"testing"

	"arbiter/api"
	"arbiter/display"
	"arbiter/hier"
	"arbiter/itable"
	"arbiter/vtable"
)

// oddNumbers are numbers of no class of any world, of no method of any class, and of no slot of any table.
var oddNumbers = []int{-1, math.MinInt, math.MaxInt, -2, 1 << 20, 1 << 32, -1 << 32, 1<<32 + 1}

// method has the descriptor ()V, unless its name brings one.
func method(name string, flags int) api.Method {
	m := api.Method{Name: name, Desc: "()V", Flags: flags}
	if at := strings.Index(name, "("); at >= 0 {
		m.Name, m.Desc = name[:at], name[at:]
	}
	if flags&api.AbstractFl == 0 {
		m.Locals, m.Code = 4, []api.Inst{{Op: api.Return}}
	}
	return m
}

func class(name, super string, methods ...api.Method) api.Class {
	return api.Class{Name: name, Super: super, Flags: api.Public | api.Super | api.AbstractFl, Methods: methods}
}

func iface(name string, methods ...api.Method) api.Class {
	return api.Class{Name: name, Super: "Object", Flags: api.Public | api.Interface | api.AbstractFl, Methods: methods}
}

func of(c api.Class, ifaces ...string) api.Class {
	c.Ifaces = ifaces
	return c
}

// chainOf are classes C1, C2 and so on, each below the one ahead of it, and each with a method of its own.
func chainOf(count int) []api.Class {
	var out []api.Class
	super := "Object"
	for n := range count {
		c := class(fmt.Sprint("C", n+1), super, method(fmt.Sprint("m", n%10), api.Public))
		out = append(out, c)
		super = c.Name
	}
	return out
}

func define(t *testing.T, w *hier.World, c api.Class) int {
	t.Helper()
	id, e := w.Define(c)
	if e != api.OK {
		t.Fatalf("Define(%v): %d", c, e)
	}
	return id
}

func worldOf(t *testing.T, classes ...api.Class) *hier.World {
	t.Helper()
	w := hier.New()
	for _, c := range classes {
		define(t, w, c)
	}
	return w
}

func newLinker(t *testing.T, w *hier.World) *Linker {
	t.Helper()
	l, e := New(w)
	if l == nil || e != api.OK {
		t.Fatalf("New = %v, %d", l, e)
	}
	return l
}

// linkerOf links a world of these classes.
func linkerOf(t *testing.T, classes ...api.Class) *Linker {
	t.Helper()
	return newLinker(t, worldOf(t, classes...))
}

// The classes of sample, by their numbers.
const (
	object = iota
	cloneable
	serializable
	ifaceI
	ifaceJ
	classA
	classB
	sampleSize
)

// sampleClasses are two interfaces, one below the other, and two classes, one below the other.
func sampleClasses() []api.Class {
	return []api.Class{
		iface("I", method("m", api.Public|api.AbstractFl)),
		of(iface("J", method("p", api.Private), method("n", api.Public), method("s", api.Public|api.Static), method("q", api.Public)), "I"),
		of(class("A", "Object", method("<init>", api.Public), method("m", api.Public), method("id()I", api.Public)), "J"),
		of(class("B", "A", method("n", api.Public), method("o", 0)), "Cloneable"),
	}
}

func methodOf(class, index int) api.MethodID {
	return api.MethodID{Class: class, Index: index}
}

// The methods of sample that tables have.
var (
	objectInit, objectID, objectKin = methodOf(object, 0), methodOf(object, 1), methodOf(object, 2)
	methodIm                        = methodOf(ifaceI, 0)
	methodJp, methodJn, methodJs    = methodOf(ifaceJ, 0), methodOf(ifaceJ, 1), methodOf(ifaceJ, 2)
	methodJq                        = methodOf(ifaceJ, 3)
	methodAm, methodAid             = methodOf(classA, 1), methodOf(classA, 2)
	methodBn, methodBo              = methodOf(classB, 0), methodOf(classB, 1)
)

// sampleTables are the tables of sample's classes, written out.
func sampleTables() []api.Tables {
	entry := func(root, runs api.MethodID) api.Entry {
		return api.Entry{Root: root, Method: runs, Virtual: runs}
	}
	return []api.Tables{
		{Slots: []api.Slot{{Root: objectID, Method: objectID}, {Root: objectKin, Method: objectKin}}, Entries: []api.Entry{entry(objectID, objectID)}, Display: api.Display{Primary: []int{object}}},
		{Display: api.Display{Primary: []int{object, cloneable}}},
		{Display: api.Display{Primary: []int{object, serializable}}},
		{Display: api.Display{Primary: []int{object, ifaceI}}},
		{Display: api.Display{Primary: []int{object, ifaceJ}, Secondary: []int{ifaceI}}},
		{
			Slots:   []api.Slot{{Root: objectID, Method: methodAid}, {Root: objectKin, Method: objectKin}, {Root: methodAm, Method: methodAm}},
			Entries: []api.Entry{entry(objectID, methodAid), entry(methodIm, methodAm), entry(methodJn, methodJn), entry(methodJq, methodJq)},
			Display: api.Display{Primary: []int{object, classA}, Secondary: []int{ifaceI, ifaceJ}},
		},
		{
			Slots:   []api.Slot{{Root: objectID, Method: methodAid}, {Root: objectKin, Method: objectKin}, {Root: methodAm, Method: methodAm}, {Root: methodBn, Method: methodBn}, {Root: methodBo, Method: methodBo}},
			Entries: []api.Entry{entry(objectID, methodAid), entry(methodIm, methodAm), entry(methodJn, methodBn), entry(methodJq, methodJq)},
			Display: api.Display{Primary: []int{object, classA, classB}, Secondary: []int{ifaceI, ifaceJ, cloneable}},
		},
	}
}

func sample(t *testing.T) *Linker {
	t.Helper()
	return linkerOf(t, sampleClasses()...)
}

func same(a, b api.Tables) bool {
	return slices.Equal(a.Slots, b.Slots) && slices.Equal(a.Entries, b.Entries) && slices.Equal(a.Display.Primary, b.Display.Primary) && slices.Equal(a.Display.Deep, b.Display.Deep) && slices.Equal(a.Display.Secondary, b.Display.Secondary)
}

// made is what the three layers answer of a class that is there; an interface has neither slots nor entries.
func made(w *hier.World, id int) api.Tables {
	slots, _ := vtable.Build(w, id)
	entries, _ := itable.Build(w, id)
	shown, _ := display.Build(w, id)
	return api.Tables{Slots: slots, Entries: entries, Display: shown}
}

func sizeOf(x api.Tables) int {
	return len(x.Slots) + len(x.Entries) + len(x.Display.Primary) + len(x.Display.Deep) + len(x.Display.Secondary)
}

func tablesAre(t *testing.T, l *Linker, id int, want api.Tables) {
	t.Helper()
	if got, e := l.Tables(id); !same(got, want) || e != api.OK {
		t.Errorf("Tables(%d) = %v, %d, want %v", id, got, e, want)
	}
}

// built holds Built of all numbers, and Builds, against those classes that have been built so far.
func built(t *testing.T, l *Linker, ids ...int) {
	t.Helper()
	for n := range l.World().Len() + 2 {
		if got := l.Built(n); got != slices.Contains(ids, n) {
			t.Errorf("Built(%d) = %v, where %v have been built", n, got, ids)
		}
	}
	if got := l.Builds(); got != len(ids) {
		t.Errorf("Builds() = %d, want %d: %v", got, len(ids), ids)
	}
}

func asked(t *testing.T, l *Linker, workers int, ids []int, want ...int) {
	t.Helper()
	if got, e := l.Ask(ids, workers); !slices.Equal(got, want) || e != api.OK {
		t.Errorf("Ask(%v, %d) = %v, %d, want %v", ids, workers, got, e, want)
	}
}

func slotIs(t *testing.T, l *Linker, r, slot int, want api.MethodID) {
	t.Helper()
	if got, e := l.Slot(r, slot); got != want || e != api.OK {
		t.Errorf("Slot(%d, %d) = %v, %d, want %v", r, slot, got, e, want)
	}
}

func entryIs(t *testing.T, l *Linker, r int, want api.Entry, reads int) {
	t.Helper()
	if got, n, e := l.Entry(r, want.Root); got != want || n != reads || e != api.OK {
		t.Errorf("Entry(%d, %v) = %v, %d, %d, want %v, %d", r, want.Root, got, n, e, want, reads)
	}
}

func kind(dims int, name string) api.Type {
	return api.Type{Dims: dims, Name: name}
}

func belowIs(t *testing.T, l *Linker, a, b api.Type, want bool, reads int) {
	t.Helper()
	if got, n, e := l.Below(a, b); got != want || n != reads || e != api.OK {
		t.Errorf("Below(%v, %v) = %v, %d, %d, want %v, %d", a, b, got, n, e, want, reads)
	}
}

func tablesRefused(t *testing.T, l *Linker, want api.Errno, id int) {
	t.Helper()
	if got, e := l.Tables(id); !same(got, api.Tables{}) || e != want {
		t.Errorf("Tables(%d) = %v, %d, want %d", id, got, e, want)
	}
}

func askRefused(t *testing.T, l *Linker, want api.Errno, ids []int, workers int) {
	t.Helper()
	if got, e := l.Ask(ids, workers); len(got) != 0 || e != want {
		t.Errorf("Ask(%d numbers, %d) = %v, %d, want %d", len(ids), workers, got, e, want)
	}
}

func slotRefused(t *testing.T, l *Linker, want api.Errno, r, slot int) {
	t.Helper()
	if got, e := l.Slot(r, slot); got != (api.MethodID{}) || e != want {
		t.Errorf("Slot(%d, %d) = %v, %d, want %d", r, slot, got, e, want)
	}
}

func entryRefused(t *testing.T, l *Linker, want api.Errno, r int, m api.MethodID) {
	t.Helper()
	if got, n, e := l.Entry(r, m); got != (api.Entry{}) || n != 0 || e != want {
		t.Errorf("Entry(%d, %v) = %v, %d, %d, want %d", r, m, got, n, e, want)
	}
}

func belowRefused(t *testing.T, l *Linker, want api.Errno, a, b api.Type) {
	t.Helper()
	if got, n, e := l.Below(a, b); got || n != 0 || e != want {
		t.Errorf("Below(%v, %v) = %v, %d, %d, want %d", a, b, got, n, e, want)
	}
}

func TestExamples(t *testing.T) { // the chapter's, 1 to 4
	l := linkerOf(t)
	built(t, l)
	tablesAre(t, l, 1, api.Tables{Display: api.Display{Primary: []int{0, 1}}})
	built(t, l, 0, 1)

	l = linkerOf(t)
	asked(t, l, 4, []int{0, 0, 9}, 4, 4, -1)
	built(t, l, 0)

	l = linkerOf(t, iface("I"), iface("J", method("m", api.Public)), of(class("A", "Object"), "I", "J"))
	entryIs(t, l, 5, api.Entry{Root: methodOf(4, 0), Method: methodOf(4, 0), Virtual: methodOf(4, 0)}, 3)
	entryIs(t, l, 5, api.Entry{Root: objectID, Method: objectID, Virtual: objectID}, 1)

	define(t, l.World(), class("B", "A", method("m", 0)))
	entryIs(t, l, 6, api.Entry{Root: methodOf(4, 0), Err: api.IllegalAccess, Virtual: methodOf(6, 0)}, 3)
	slotIs(t, l, 6, 2, methodOf(6, 0))
	built(t, l, 0, 5, 6)
}

func TestNew(t *testing.T) { // P17.1: nothing is built, whether classes are there already or arrive later
	for _, classes := range [][]api.Class{nil, sampleClasses(), chainOf(20)} {
		w := worldOf(t, classes...)
		l := newLinker(t, w)
		if l.World() != w {
			t.Errorf("World() is another world")
		}
		built(t, l)
		later := define(t, w, class("Later", "Object"))
		if l.World() != w || l.World().Len() != w.Len() {
			t.Errorf("World() is another world, behind an arrival")
		}
		built(t, l)
		tablesAre(t, l, later, made(w, later))
		built(t, l, 0, later)
	}
	if l, e := New(nil); l != nil || e != api.ErrArg {
		t.Errorf("New(nil) = %v, %d", l, e)
	}
}

func TestLinkersOfOneWorld(t *testing.T) { // P17.1: each builds its own
	w := worldOf(t, sampleClasses()...)
	a, b := newLinker(t, w), newLinker(t, w)
	tablesAre(t, a, classB, sampleTables()[classB])
	built(t, a, object, classA, classB)
	built(t, b)
	asked(t, b, 2, []int{ifaceI}, 2)
	built(t, a, object, classA, classB)
	built(t, b, object, ifaceI)
}

func TestTables(t *testing.T) { // P17.2: of classes and interfaces, of the first and the last number
	want := sampleTables()
	for _, order := range [][]int{{0, 1, 2, 3, 4, 5, 6}, {6, 5, 4, 3, 2, 1, 0}, {5, 6, 0, 4, 2, 1, 3}} {
		l := sample(t)
		for range 2 {
			for _, id := range order {
				tablesAre(t, l, id, want[id])
				tablesAre(t, l, id, made(l.World(), id))
			}
		}
		built(t, l, 0, 1, 2, 3, 4, 5, 6)
	}
}

func TestTablesBehindArrivals(t *testing.T) { // P17.2, P0.3: what arrives turns no tables, built or not, and is linked itself
	w := hier.New()
	early, late := newLinker(t, w), newLinker(t, w)
	want := sampleTables()
	for at, c := range sampleClasses() {
		next := at + 3
		tablesRefused(t, early, api.ErrRange, next)
		define(t, w, c)
		for id := range next + 1 {
			tablesAre(t, early, id, want[id])
		}
		if early.Builds() != next+1 {
			t.Errorf("Builds() = %d of %d classes", early.Builds(), next+1)
		}
	}
	for id := range w.Len() {
		tablesAre(t, late, id, want[id])
	}
}

func TestTablesOfOddEntries(t *testing.T) { // P17.2: slots that are shared, entries with errors, displays with a deep part
	classes := append([]api.Class{
		class("p/A", "Object", method("m", 0)), class("q/B", "p/A", method("m", api.Public)), class("p/C", "q/B", method("m", api.Public)),
		iface("J", method("m", api.Public)), iface("K", method("m", api.Public)), iface("L", method("m", api.Public|api.AbstractFl)),
		of(class("D", "Object"), "J", "K"), of(class("E", "Object"), "L"), of(class("F", "p/A"), "J"), of(class("G", "p/C"), "K", "J"),
	}, chainOf(12)...)
	l := linkerOf(t, append(classes, of(class("H", "C12"), "K", "L"))...)
	w := l.World()
	for id := range w.Len() {
		tablesAre(t, l, id, made(w, id))
	}
	last, _ := l.Tables(w.Len() - 1)
	if len(last.Display.Primary) != 8 || len(last.Display.Deep) != 6 || len(last.Display.Secondary) != 2 || len(last.Entries) != 3 || len(last.Slots) != 12 {
		t.Errorf("Tables(%d) = %v", w.Len()-1, last)
	}
}

func TestWhatIsBuilt(t *testing.T) { // P17.2, P17.3: with a class its chain, once, and nothing else
	classes := chainOf(9)
	classes = append(classes, iface("I"), of(iface("J"), "I"), of(class("D", "C2"), "J"))
	steps := []struct {
		id    int
		built []int
	}{
		{5, []int{0, 3, 4, 5}},                                // its whole chain is not built
		{6, []int{0, 3, 4, 5, 6}},                             // its superclass is
		{6, []int{0, 3, 4, 5, 6}},                             // the same again
		{3, []int{0, 3, 4, 5, 6}},                             // built with another
		{10, []int{0, 3, 4, 5, 6, 7, 8, 9, 10}},               // a part of its chain is
		{14, []int{0, 3, 4, 5, 6, 7, 8, 9, 10, 14}},           // without its interfaces
		{13, []int{0, 3, 4, 5, 6, 7, 8, 9, 10, 13, 14}},       // an interface without those above it
		{14, []int{0, 3, 4, 5, 6, 7, 8, 9, 10, 13, 14}},       // again
		{11, []int{0, 3, 4, 5, 6, 7, 8, 9, 10, 11, 13, 14}},   // the last of its chain
		{0, []int{0, 3, 4, 5, 6, 7, 8, 9, 10, 11, 13, 14}},    // the first
		{99, []int{0, 3, 4, 5, 6, 7, 8, 9, 10, 11, 13, 14}},   // none
		{-1, []int{0, 3, 4, 5, 6, 7, 8, 9, 10, 11, 13, 14}},   // none
		{2, []int{0, 2, 3, 4, 5, 6, 7, 8, 9, 10, 11, 13, 14}}, // one of the first three
	}
	ways := map[string]func(l *Linker, id int){
		"Tables": func(l *Linker, id int) { l.Tables(id) },
		"Ask":    func(l *Linker, id int) { l.Ask([]int{id}, 3) },
	}
	for name, way := range ways {
		t.Run(name, func(t *testing.T) {
			l := linkerOf(t, classes...)
			built(t, l)
			for _, step := range steps {
				way(l, step.id)
				built(t, l, step.built...)
			}
		})
	}
}

func TestSlotAndEntryBuild(t *testing.T) { // P17.2: as the other calls
	l := linkerOf(t, chainOf(4)...)
	slotIs(t, l, 4, 0, objectID)
	built(t, l, 0, 3, 4)
	slotIs(t, l, 4, 1, objectKin)
	built(t, l, 0, 3, 4)
	entryIs(t, l, 6, api.Entry{Root: objectID, Method: objectID, Virtual: objectID}, 1)
	built(t, l, 0, 3, 4, 5, 6)
	entryIs(t, l, 5, api.Entry{Root: objectID, Method: objectID, Virtual: objectID}, 1)
	slotIs(t, l, 6, 5, methodOf(6, 0))
	built(t, l, 0, 3, 4, 5, 6)
}

func TestBuiltAndBuildsBuildNothing(t *testing.T) { // P17.3, also of numbers that are none yet
	l := sample(t)
	for range 2 {
		for _, id := range append([]int{0, 1, 5, 6, 7, 8, 299, 300}, oddNumbers...) {
			if l.Built(id) {
				t.Errorf("Built(%d)", id)
			}
		}
		if l.Builds() != 0 || l.World() == nil {
			t.Errorf("Builds() = %d", l.Builds())
		}
	}
	if id := define(t, l.World(), class("C", "B")); l.Built(id) {
		t.Errorf("Built of a class that has just arrived, and was asked for ahead of it")
	}
	tablesAre(t, l, 7, made(l.World(), 7))
	built(t, l, object, classA, classB, 7)
	for _, id := range oddNumbers {
		if l.Built(id) {
			t.Errorf("Built(%d)", id)
		}
	}
}

func TestAsk(t *testing.T) { // P17.4
	l := sample(t)
	for _, workers := range []int{1, 2, 3, 7, 15, 16} {
		asked(t, l, workers, nil)
		asked(t, l, workers, []int{})
	}
	built(t, l)                                         // an empty list asks for none
	for _, workers := range []int{1, 2, 3, 7, 15, 16} { // more than numbers, too
		l := sample(t)
		asked(t, l, workers, []int{classA}, 11)
		built(t, l, object, classA)
		asked(t, l, workers, []int{classB, classA, classB, classB, object}, 15, 11, 15, 15, 4)
		built(t, l, object, classA, classB)
		asked(t, l, workers, []int{-1, ifaceJ, sampleSize, ifaceI, math.MaxInt, ifaceJ, math.MinInt}, -1, 3, -1, 2, -1, 3, -1)
		built(t, l, object, classA, classB, ifaceI, ifaceJ)
		asked(t, l, workers, []int{6, 5, 4, 3, 2, 1, 0}, 15, 11, 3, 2, 2, 2, 4)
		asked(t, l, workers, oddNumbers, repeated(-1, len(oddNumbers))...)
		built(t, l, 0, 1, 2, 3, 4, 5, 6)
	}
}

func TestAskCountsDeepClasses(t *testing.T) { // P17.4: all three lists of a display
	l := linkerOf(t, append(chainOf(12), iface("I", method("m", api.Public)), of(class("D", "C12"), "I", "Serializable"))...)
	w := l.World()
	var ids, want []int
	for id := range w.Len() {
		ids, want = append(ids, id), append(want, sizeOf(made(w, id)))
	}
	asked(t, l, 5, ids, want...)
	if last := want[len(want)-1]; last != 12+2+8+6+2 {
		t.Errorf("the last class: %d", last)
	}
}

func repeated(n, count int) []int {
	return slices.Repeat([]int{n}, count)
}

func TestAskLong(t *testing.T) { // P17.4: as long as MaxAsk, and one longer
	for _, workers := range []int{1, 3, 16} {
		l := sample(t)
		askRefused(t, l, api.ErrLarge, repeated(classA, 4097), workers)
		askRefused(t, l, api.ErrLarge, repeated(-1, 4097), workers)
		askRefused(t, l, api.ErrLarge, make([]int, 100000), workers)
		built(t, l)
		asked(t, l, workers, repeated(ifaceI, 4096), repeated(2, 4096)...)
		var ids, want []int
		sizes := []int{4, 2, 2, 2, 3, 11, 15, -1}
		for place := range 4096 {
			id := place * place % 8
			ids, want = append(ids, id), append(want, sizes[id])
		}
		asked(t, l, workers, ids, want...)
		asked(t, l, workers, ids[:4095], want[:4095]...)
	}
}

func TestAskWorkers(t *testing.T) { // P17.4: at both edges and one beyond
	l := sample(t)
	for _, workers := range append([]int{0, -1, 17, 18, 4096}, oddNumbers...) {
		askRefused(t, l, api.ErrArg, nil, workers)
		askRefused(t, l, api.ErrArg, []int{classA, -1}, workers)
		askRefused(t, l, api.ErrArg, make([]int, 4097), workers) // R2: named ahead of ErrLarge
	}
	built(t, l)
	asked(t, l, 1, []int{0}, 4)
	asked(t, l, 16, []int{0}, 4)
}

func TestSlot(t *testing.T) { // P17.5: of all classes, at the first and the last slot, and one beyond
	for id, want := range sampleTables() {
		for place, s := range want.Slots {
			l := sample(t)
			for range 2 {
				slotIs(t, l, id, place, s.Method)
			}
		}
		l := sample(t)
		refused := func() {
			t.Helper()
			for _, slot := range append([]int{-1, len(want.Slots), len(want.Slots) + 1}, oddNumbers...) {
				slotRefused(t, l, api.ErrRange, id, slot)
			}
		}
		refused()
		built(t, l) // R5
		l.Tables(id)
		refused()
	}
}

func TestSlotOfSharedSlots(t *testing.T) { // P17.5: the Method of a slot, not its Root
	l := linkerOf(t, class("p/A", "Object", method("m", 0)), class("q/B", "p/A", method("m", api.Public)), class("p/C", "q/B", method("m", api.Public)))
	slotIs(t, l, 5, 2, methodOf(5, 0))
	slotIs(t, l, 5, 3, methodOf(5, 0))
	slotIs(t, l, 4, 2, methodOf(3, 0))
	slotIs(t, l, 4, 3, methodOf(4, 0))
	slotRefused(t, l, api.ErrRange, 5, 4)
	slotRefused(t, l, api.ErrRange, 3, 3)
}

func TestSlotOfNoClass(t *testing.T) { // P17.5
	l := sample(t)
	for _, r := range append([]int{sampleSize, sampleSize + 1, 300}, oddNumbers...) {
		for _, slot := range append([]int{0, 1}, oddNumbers...) {
			slotRefused(t, l, api.ErrRange, r, slot)
		}
	}
	built(t, l)
}

func TestEntry(t *testing.T) { // P17.6: of Object, of the first and of the last interface of the closure
	reads := map[api.MethodID]int{objectID: 1, methodIm: 2, methodJn: 3, methodJq: 3}
	for id, want := range sampleTables() {
		for _, entry := range want.Entries {
			l := sample(t)
			for range 2 {
				entryIs(t, l, id, entry, reads[entry.Root])
			}
		}
	}
}

func TestEntryReads(t *testing.T) { // P17.6: the interface's place in the closure of r, whatever it has itself above it
	m := method("m", api.Public|api.AbstractFl)
	l := linkerOf(t, iface("I", m), of(iface("J", m, method("n", api.Public)), "I"), iface("K"), of(iface("L", m), "K"),
		of(class("A", "Object"), "L", "J"), of(class("B", "A"), "Cloneable", "L"), of(class("C", "Object"), "J", "L", "Serializable"))
	for _, c := range []struct{ r, iface, reads int }{
		{7, 6, 3}, {7, 3, 4}, {7, 4, 5}, // the closure of A is K, L, I, J
		{8, 6, 3}, {8, 3, 4}, {8, 4, 5}, // that of B has Cloneable behind it
		{9, 3, 2}, {9, 4, 3}, {9, 6, 5}, // that of C is I, J, K, L, Serializable
	} {
		entryIs(t, l, c.r, api.Entry{Root: methodOf(c.iface, 0), Err: api.Abstract, VirtualErr: api.Abstract}, c.reads)
	}
	entryIs(t, l, 7, api.Entry{Root: methodOf(4, 1), Method: methodOf(4, 1), Virtual: methodOf(4, 1)}, 5)
	entryIs(t, l, 9, api.Entry{Root: objectID, Method: objectID, Virtual: objectID}, 1)
}

func TestEntryOfAWideClosure(t *testing.T) { // P17.6: never more than there are interfaces above, and one
	var classes []api.Class
	var names []string
	for n := range 20 {
		c := iface(fmt.Sprint("I", n), method("m", api.Public), method("n", api.Public))
		classes, names = append(classes, c), append(names, c.Name)
	}
	l := linkerOf(t, append(classes, of(class("A", "Object"), names...))...)
	for n := range names {
		entryIs(t, l, 23, api.Entry{Root: methodOf(n+3, 1), Err: api.Incompatible, VirtualErr: api.Incompatible}, n+2)
	}
}

// noRoots are methods that have no entry in the table of A, and such as are none.
func noRoots() []api.MethodID {
	out := []api.MethodID{objectInit, objectKin, methodJp, methodJs, methodAm, methodAid, methodBn, methodOf(object, 3), methodOf(ifaceI, 1), methodOf(ifaceI, -1), methodOf(ifaceJ, 4), methodOf(cloneable, 0), methodOf(sampleSize, 0), methodOf(sampleSize+1, 0)}
	for _, odd := range oddNumbers {
		out = append(out, methodOf(odd, 0), methodOf(odd, odd), methodOf(object, odd), methodOf(ifaceI, odd))
	}
	return out
}

func TestEntryOfNoRoot(t *testing.T) { // P17.6
	l := sample(t)
	for range 2 { // ahead of building, and behind it
		for _, m := range noRoots() {
			for _, r := range []int{object, classA, classB} {
				entryRefused(t, l, api.ErrNone, r, m)
			}
		}
		for _, r := range []int{cloneable, serializable, ifaceI, ifaceJ} { // an interface has no entries
			for _, m := range append(noRoots(), objectID, methodIm, methodJn) {
				entryRefused(t, l, api.ErrNone, r, m)
			}
		}
		for _, m := range []api.MethodID{methodIm, methodJn, methodJq} { // not above Object
			entryRefused(t, l, api.ErrNone, object, m)
		}
		if l.Builds() == 0 {
			built(t, l) // R5
			asked(t, l, 2, []int{0, 1, 2, 3, 4, 5, 6}, 4, 2, 2, 2, 3, 11, 15)
		}
	}
}

func TestEntryOfNoClass(t *testing.T) { // P17.6, R2: named ahead of a method that is no Root
	l := sample(t)
	for _, r := range append([]int{sampleSize, sampleSize + 1, 300}, oddNumbers...) {
		for _, m := range append(noRoots(), objectID, methodIm) {
			entryRefused(t, l, api.ErrRange, r, m)
		}
	}
	built(t, l)
}

func TestBelow(t *testing.T) { // P17.7: of classes, interfaces, arrays and ints
	l := sample(t)
	all := []api.Type{}
	for _, name := range []string{"", "Object", "Cloneable", "Serializable", "I", "J", "A", "B"} {
		for _, dims := range []int{0, 1, 2, 254, 255} {
			all = append(all, kind(dims, name))
		}
	}
	for _, c := range []struct {
		s, t  api.Type
		want  bool
		reads int
	}{
		{kind(0, "B"), kind(0, "A"), true, 1}, {kind(0, "A"), kind(0, "B"), false, 1}, {kind(0, "B"), kind(0, "I"), true, 2}, {kind(0, "B"), kind(0, "J"), true, 3}, {kind(0, "B"), kind(0, "Cloneable"), true, 4}, {kind(0, "B"), kind(0, "Serializable"), false, 4},
		{kind(0, "J"), kind(0, "I"), true, 2}, {kind(0, "I"), kind(0, "J"), false, 1}, {kind(0, "I"), kind(0, "I"), true, 1}, {kind(0, "I"), kind(0, "Object"), true, 1}, {kind(0, "I"), kind(0, "A"), false, 1},
		{kind(0, ""), kind(0, ""), true, 1}, {kind(0, ""), kind(0, "Object"), false, 1}, {kind(0, "Object"), kind(0, ""), false, 1}, {kind(1, ""), kind(1, ""), true, 1}, {kind(2, ""), kind(1, "Object"), true, 1},
		{kind(255, "B"), kind(255, "J"), true, 3}, {kind(1, "B"), kind(0, "Serializable"), true, 1}, {kind(1, "B"), kind(0, "I"), false, 1}, {kind(0, "B"), kind(1, "B"), false, 1},
	} {
		belowIs(t, l, c.s, c.t, c.want, c.reads)
	}
	for range 2 { // and with all tables built
		for _, a := range all {
			for _, b := range all {
				want, reads, _ := display.TestTypes(l.World(), a, b)
				belowIs(t, l, a, b, want, reads)
			}
		}
		l.Ask([]int{0, 1, 2, 3, 4, 5, 6}, 1)
	}
}

func TestBelowRefuses(t *testing.T) { // P17.7, R2: the error of s is looked for ahead of that of t
	l := sample(t)
	unsound := []api.Type{kind(-1, ""), kind(256, "Object"), kind(math.MaxInt, "A"), kind(0, "1"), kind(0, "LA;"), kind(0, strings.Repeat("n", 61))}
	absent := []api.Type{kind(0, "no/Such"), kind(255, "no/Such"), kind(0, "C"), kind(1, strings.Repeat("n", 60))}
	good := []api.Type{kind(0, ""), kind(0, "A"), kind(1, "I"), kind(255, "Object")}
	for _, bad := range unsound {
		for _, other := range slices.Concat(unsound, absent, good) {
			belowRefused(t, l, api.ErrForm, bad, other)
		}
		for _, other := range good {
			belowRefused(t, l, api.ErrForm, other, bad)
		}
	}
	for _, bad := range absent {
		for _, other := range slices.Concat(unsound, absent, good) {
			belowRefused(t, l, api.NoClassDef, bad, other)
		}
		for _, other := range good {
			belowRefused(t, l, api.NoClassDef, other, bad)
		}
	}
	built(t, l)
	define(t, l.World(), class("C", "B"))
	belowIs(t, l, kind(0, "C"), kind(0, "J"), true, 3)
}

func TestTablesRefused(t *testing.T) { // P17.2: at both edges and one beyond
	l := sample(t)
	for range 2 {
		for _, id := range append([]int{-1, sampleSize, sampleSize + 1, 299, 300}, oddNumbers...) {
			tablesRefused(t, l, api.ErrRange, id)
		}
		if l.Builds() == 0 {
			built(t, l) // R5
			tablesAre(t, l, sampleSize-1, sampleTables()[sampleSize-1])
			tablesAre(t, l, 0, sampleTables()[0])
		}
	}
}

func TestNilLinker(t *testing.T) { // P17.1 to P17.7, R6: ahead of every other error
	var l *Linker
	if l.World() != nil || l.Builds() != 0 {
		t.Errorf("World() = %v, Builds() = %d", l.World(), l.Builds())
	}
	for _, n := range append([]int{0, 1, 2, 3, 16, 17}, oddNumbers...) {
		if l.Built(n) {
			t.Errorf("Built(%d)", n)
		}
		tablesRefused(t, l, api.ErrArg, n)
		askRefused(t, l, api.ErrArg, nil, n)
		askRefused(t, l, api.ErrArg, []int{0, n}, n)
		askRefused(t, l, api.ErrArg, make([]int, 4097), n)
		for _, other := range append([]int{0, 1}, oddNumbers...) {
			slotRefused(t, l, api.ErrArg, n, other)
			entryRefused(t, l, api.ErrArg, n, methodOf(0, other))
			entryRefused(t, l, api.ErrArg, n, methodOf(other, 1))
		}
	}
	all := []api.Type{kind(0, ""), kind(1, "Object"), kind(-1, ""), kind(0, "no/Such"), kind(0, "1")}
	for _, a := range all {
		for _, b := range all {
			belowRefused(t, l, api.ErrArg, a, b)
		}
	}
}

// TestLinkerThatNewDidNotMake: it has no world, so no number is one of a class.
func TestLinkerThatNewDidNotMake(t *testing.T) { // P0.1
	l := &Linker{}
	if l.World() != nil || l.Builds() != 0 || l.Built(0) {
		t.Errorf("World() = %v, Builds() = %d", l.World(), l.Builds())
	}
	tablesRefused(t, l, api.ErrRange, 0)
	slotRefused(t, l, api.ErrRange, 0, 0)
	entryRefused(t, l, api.ErrRange, 0, objectID)
	asked(t, l, 3, []int{0, -1, 1}, -1, -1, -1)
	belowRefused(t, l, api.ErrArg, kind(0, ""), kind(0, ""))
}

func TestWorldThatNewDidNotMake(t *testing.T) { // P0.1: it has no class
	l := newLinker(t, &hier.World{})
	tablesRefused(t, l, api.ErrRange, 0)
	slotRefused(t, l, api.ErrRange, 0, 0)
	entryRefused(t, l, api.ErrRange, 0, objectID)
	asked(t, l, 3, []int{0, -1, 1}, -1, -1, -1)
	belowIs(t, l, kind(0, ""), kind(0, ""), true, 1)
	belowRefused(t, l, api.NoClassDef, kind(0, ""), kind(0, "Object"))
	built(t, l)
}

func TestFullWorld(t *testing.T) { // P17.2 to P17.6: the longest chain that a world takes, built by one call
	w := worldOf(t, chainOf(297)...)
	last := w.Len() - 1
	for name, way := range map[string]func(l *Linker){
		"Tables": func(l *Linker) { tablesAre(t, l, last, made(w, last)) },
		"Ask":    func(l *Linker) { asked(t, l, 16, repeated(last, 50), repeated(12+1+298, 50)...) },
		"Slot":   func(l *Linker) { slotIs(t, l, last, 11, methodOf(292, 0)) },
		"Entry": func(l *Linker) {
			entryIs(t, l, last, api.Entry{Root: objectID, Method: objectID, Virtual: objectID}, 1)
		},
	} {
		l := newLinker(t, w)
		way(l)
		if l.Builds() != 298 || !l.Built(0) || l.Built(1) || l.Built(2) || !l.Built(3) || !l.Built(last) || l.Built(last+1) {
			t.Errorf("%s: Builds() = %d", name, l.Builds())
		}
		tablesRefused(t, l, api.ErrRange, last+1)
		tablesAre(t, l, 3, made(w, 3))
		tablesAre(t, l, 150, made(w, 150))
		if l.Builds() != 298 {
			t.Errorf("%s: Builds() = %d behind calls for what is built", name, l.Builds())
		}
	}
}
