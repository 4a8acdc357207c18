package hier

import (
	"fmt"
	"math"
	"reflect"
	"slices"
	"strings"
	"testing"

	"arbiter/api"
)

const ifaceFlags = api.Public | api.Interface | api.AbstractFl

const hiddenIface = api.Interface | api.AbstractFl

func class(name, super string, flags int, ifaces ...string) api.Class {
	return api.Class{Name: name, Super: super, Flags: flags, Ifaces: ifaces}
}

func loaded(loader int, c api.Class) api.Class {
	c.Loader = loader
	return c
}

// worldOf answers a new world with these classes; each must be taken, with the next number.
func worldOf(t *testing.T, classes ...api.Class) *World {
	t.Helper()
	w := New()
	for _, c := range classes {
		defineAs(t, w, c, w.Len())
	}
	return w
}

func defineAs(t *testing.T, w *World, c api.Class, want int) {
	t.Helper()
	if id, e := w.Define(c); id != want || e != api.OK {
		t.Fatalf("Define(%s) = %d, %d, want %d", show(c), id, e, want)
	}
}

func idOf(t *testing.T, w *World, name string) int {
	t.Helper()
	id, e := w.ByName(name)
	if e != api.OK {
		t.Fatalf("ByName(%q): %d", name, e)
	}
	return id
}

// nameList is a list of numbers as names, which are easier to read.
func nameList(t *testing.T, w *World, list []int) string {
	t.Helper()
	var out []string
	for _, id := range list {
		c, e := w.Class(id)
		if e != api.OK {
			t.Fatalf("Class(%d): %d", id, e)
		}
		out = append(out, c.Name)
	}
	return strings.Join(out, " ")
}

// everything asks a world all questions about the numbers below count, as one value that may be compared.
func everything(w *World, count int) []facts {
	var ids []int
	for id := range count {
		ids = append(ids, id)
	}
	var out []facts
	for _, id := range ids {
		c, _ := w.Class(id)
		out = append(out, factsOf(w, id, ids, c.Name, askedNames(c)))
	}
	return out
}

// fill defines classes in w till it is full.
func fill(t *testing.T, w *World) {
	t.Helper()
	for w.Len() < api.MaxClasses {
		defineAs(t, w, class(fmt.Sprint("fill/C", w.Len()), "Object", api.Public), w.Len())
	}
}

func TestNewWhole(t *testing.T) { // P6.1
	want := []api.Class{
		{Name: "Object", Flags: api.Public | api.Super, Methods: []api.Method{
			{Name: "<init>", Desc: "()V", Flags: api.Public, Locals: 1, Stack: 0, Code: []api.Inst{{Op: api.Return}}},
			{Name: "id", Desc: "()I", Flags: api.Public, Locals: 1, Stack: 1, Code: []api.Inst{{Op: api.IConst, N: 7}, {Op: api.IReturn}}},
			{Name: "kin", Desc: "()LObject;", Flags: api.Protected, Locals: 1, Stack: 1, Code: []api.Inst{{Op: api.ALoad, N: 0}, {Op: api.AReturn}}},
		}},
		{Name: "Cloneable", Super: "Object", Flags: api.Public | api.Interface | api.AbstractFl},
		{Name: "Serializable", Super: "Object", Flags: api.Public | api.Interface | api.AbstractFl},
	}
	w := New()
	if w.Len() != 3 {
		t.Fatalf("Len() = %d", w.Len())
	}
	for id, c := range want {
		got, e := w.Class(id)
		if e != api.OK || !reflect.DeepEqual(twin(got), c) {
			t.Errorf("Class(%d) = %s, %d", id, show(got), e)
		}
		if at, e := w.ByName(c.Name); at != id || e != api.OK {
			t.Errorf("ByName(%q) = %d, %d", c.Name, at, e)
		}
		for place, m := range c.Methods {
			if at, e := w.Find(id, m.Name, m.Desc); at != place || e != api.OK {
				t.Errorf("Find(%d, %s, %s) = %d, %d", id, m.Name, m.Desc, at, e)
			}
		}
	}
	compare(t, w, newTold(), numbersAround(3))
}

func TestWorldsAreTheirOwn(t *testing.T) { // P6.1, R4
	a, b := New(), New()
	defineAs(t, a, class("A", "Object", 0), 3)
	if a == b || b.Len() != 3 {
		t.Fatalf("a class that arrives in one world is in another")
	}
	if _, e := b.ByName("A"); e != api.ErrNone {
		t.Errorf("ByName in the other world: %d", e)
	}
	if _, e := b.Define(class("B", "A", 0)); e != api.NoClassDef {
		t.Errorf("Define in the other world: %d", e)
	}
	defineAs(t, b, class("B", "Object", 0), 3)
	if c, _ := a.Class(3); c.Name != "A" {
		t.Errorf("Class(3) = %s", show(c))
	}
}

func TestExamples(t *testing.T) {
	w := worldOf(t, class("A", "Object", api.Public)) // example 2
	for _, x := range []struct {
		c    api.Class
		want api.Errno
	}{
		{class("A", "Object", api.Public), api.Linkage},
		{class("B", "C", api.Public), api.NoClassDef},
		{class("B", "Cloneable", api.Public), api.Incompatible},
		{class("I", "A", ifaceFlags), api.Incompatible},
		{class("B", "Object", api.Public, "A"), api.Incompatible},
	} {
		refused(t, w, x.c, x.want)
	}
	w = worldOf(t, class("p/A", "Object", 0)) // example 3
	refused(t, w, class("q/B", "p/A", 0), api.IllegalAccess)
	refused(t, w, loaded(1, class("p/B", "p/A", 0)), api.IllegalAccess)
	defineAs(t, w, class("p/B", "p/A", 0), 4)
	w = worldOf(t, class("I", "Object", ifaceFlags), class("J", "Object", ifaceFlags, "I"), class("K", "Object", ifaceFlags, "I"), class("C", "Object", 0, "K", "J")) // example 4
	for id, want := range [][]int{nil, nil, nil, nil, {3}, {3}, {3, 5, 4}} {
		if got, e := w.Closure(id); e != api.OK || !slices.Equal(got, want) {
			t.Errorf("Closure(%d) = %v, %d, want %v", id, got, e, want)
		}
	}
}

// refused asks that Define answers this error, and that nothing is turned by it (R3, R5).
func refused(t *testing.T, w *World, c api.Class, want api.Errno) {
	t.Helper()
	before := everything(w, w.Len()+1)
	count := w.Len()
	number, there := w.ByName(c.Name)
	if id, e := w.Define(c); id != 0 || e != want {
		t.Errorf("Define(%s) = %d, %d, want 0, %d", show(c), id, e, want)
	}
	if id, e := w.ByName(c.Name); id != number || e != there {
		t.Errorf("Define(%s) was refused and left its name: %d, %d", show(c), id, e)
	}
	if w.Len() != count || !reflect.DeepEqual(before, everything(w, count+1)) {
		t.Errorf("Define(%s) was refused and left a trace", show(c))
	}
}

// town is a world of classes and interfaces, open and hidden.
func town(t *testing.T) *World {
	t.Helper()
	return worldOf(t,
		class("A", "Object", api.Public),
		class("I", "Object", ifaceFlags), class("J", "Object", ifaceFlags),
		class("p/Open", "Object", api.Public), class("p/Shut", "Object", 0),
		class("p/OpenI", "Object", ifaceFlags), class("p/ShutI", "Object", hiddenIface),
		class("Bare", "Object", 0), class("BareI", "Object", hiddenIface),
		loaded(3, class("p/Far", "Object", 0)), loaded(3, class("p/FarI", "Object", hiddenIface)),
	)
}

func TestDefineRefuses(t *testing.T) { // P6.2
	w := town(t)
	for _, x := range []struct {
		c    api.Class
		want api.Errno
	}{
		// Not sound.
		{api.Class{}, api.ErrForm},
		{class("", "Object", 0), api.ErrForm}, {class("B", "", 0), api.ErrForm}, {class("B", "B", 0), api.ErrForm}, {class("1", "Object", 0), api.ErrForm},
		{class("B", "Object", 0, "I", "I"), api.ErrForm}, {class("B", "Object", 0, "B"), api.ErrForm}, {class("B", "Object", 0, ""), api.ErrForm},
		{class("B", "Object", api.Private), api.ErrForm}, {class("B", "Object", api.Interface), api.ErrForm}, {class("B", "Object", -1), api.ErrForm},
		{loaded(-1, class("B", "Object", 0)), api.ErrForm}, {loaded(10, class("B", "Object", 0)), api.ErrForm},
		{api.Class{Name: "B", Super: "Object", Methods: []api.Method{{}}}, api.ErrForm},
		// The name is there.
		{class("A", "Object", 0), api.Linkage}, {class("I", "Object", ifaceFlags), api.Linkage}, {class("p/Shut", "Object", 0), api.Linkage},
		{class("Object", "A", 0), api.Linkage}, {class("Cloneable", "Object", ifaceFlags), api.Linkage}, {class("Serializable", "Object", 0), api.Linkage},
		{loaded(9, class("A", "Object", 0)), api.Linkage},
		// Super.
		{class("B", "C", 0), api.NoClassDef}, {class("B", "p/A", 0), api.NoClassDef}, {class("p/B", "Open", 0), api.NoClassDef}, {class("B", "a", 0), api.NoClassDef},
		{class("B", "C", ifaceFlags), api.NoClassDef},
		{class("B", "I", 0), api.Incompatible}, {class("B", "Serializable", 0), api.Incompatible}, {class("B", "I", ifaceFlags), api.Incompatible}, {class("B", "A", ifaceFlags), api.Incompatible},
		{class("p/B", "p/Shut", hiddenIface), api.Incompatible},
		{class("B", "p/Shut", 0), api.IllegalAccess}, {class("q/B", "p/Shut", api.Public), api.IllegalAccess}, {class("p/q/B", "p/Shut", 0), api.IllegalAccess}, {loaded(1, class("p/B", "p/Shut", 0)), api.IllegalAccess},
		{class("p/B", "Bare", 0), api.IllegalAccess}, {loaded(1, class("B", "Bare", 0)), api.IllegalAccess}, {class("p/B", "p/Far", 0), api.IllegalAccess}, {loaded(3, class("q/B", "p/Far", 0)), api.IllegalAccess},
		// Ifaces.
		{class("B", "Object", 0, "C"), api.NoClassDef}, {class("B", "Object", 0, "p/I"), api.NoClassDef}, {class("B", "Object", ifaceFlags, "C"), api.NoClassDef},
		{class("B", "Object", 0, "A"), api.Incompatible}, {class("B", "A", 0, "Object"), api.Incompatible}, {class("B", "Object", ifaceFlags, "Object"), api.Incompatible}, {class("B", "A", 0, "A"), api.Incompatible},
		{class("B", "Object", 0, "p/ShutI"), api.IllegalAccess}, {class("q/B", "Object", ifaceFlags, "p/ShutI"), api.IllegalAccess}, {loaded(1, class("p/B", "Object", 0, "p/ShutI")), api.IllegalAccess},
		{class("p/B", "Object", 0, "BareI"), api.IllegalAccess}, {loaded(1, class("B", "Object", 0, "BareI")), api.IllegalAccess}, {class("p/B", "Object", 0, "p/FarI"), api.IllegalAccess},
		// A later one behind sound ones.
		{class("B", "Object", 0, "I", "C"), api.NoClassDef}, {class("B", "Object", 0, "I", "A"), api.Incompatible}, {class("B", "Object", 0, "I", "p/ShutI"), api.IllegalAccess},
		{class("B", "A", 0, "I", "J", "Cloneable", "C"), api.NoClassDef}, {class("B", "A", ifaceFlags, "I", "J", "C"), api.Incompatible}, {class("B", "Object", ifaceFlags, "I", "J", "A"), api.Incompatible}, {class("B", "A", 0, "p/OpenI", "J", "p/ShutI"), api.IllegalAccess},
	} {
		refused(t, w, x.c, x.want)
	}
}

func TestDefineOrderOfErrors(t *testing.T) { // P6.2, R2
	w := town(t)
	for _, x := range []struct {
		c    api.Class
		want api.Errno
	}{
		// Not sound, and a name that is there, Super or an interface at fault.
		{loaded(10, class("A", "Object", 0)), api.ErrForm}, {loaded(10, class("B", "C", 0)), api.ErrForm}, {loaded(10, class("B", "I", 0)), api.ErrForm}, {loaded(10, class("B", "Object", 0, "A")), api.ErrForm}, {class("Object", "Object", 0), api.ErrForm},
		// The name is there, and Super or an interface at fault.
		{class("A", "C", 0), api.Linkage}, {class("A", "I", 0), api.Linkage}, {class("A", "p/Shut", 0), api.Linkage}, {class("A", "Object", 0, "C"), api.Linkage}, {class("A", "Object", 0, "Object"), api.Linkage}, {class("A", "Object", 0, "p/ShutI"), api.Linkage},
		// Super missing, and an interface at fault.
		{class("B", "C", 0, "A"), api.NoClassDef}, {class("B", "C", 0, "p/ShutI"), api.NoClassDef},
		// Super of the wrong kind, and hidden, and an interface at fault.
		{class("B", "p/ShutI", 0), api.Incompatible}, {class("B", "p/Shut", ifaceFlags), api.Incompatible}, {class("B", "I", 0, "C"), api.Incompatible}, {class("B", "I", 0, "p/ShutI"), api.Incompatible}, {class("B", "A", ifaceFlags, "C"), api.Incompatible}, {class("B", "A", ifaceFlags, "p/ShutI"), api.Incompatible},
		// Super hidden, and an interface at fault.
		{class("B", "p/Shut", 0, "C"), api.IllegalAccess}, {class("B", "p/Shut", 0, "A"), api.IllegalAccess},
		// An interface of the wrong kind, and hidden.
		{class("B", "Object", 0, "p/Shut"), api.Incompatible}, {class("B", "Object", ifaceFlags, "p/Shut"), api.Incompatible},
		// Two interfaces at fault: the first.
		{class("B", "Object", 0, "C", "A"), api.NoClassDef}, {class("B", "Object", 0, "C", "p/ShutI"), api.NoClassDef},
		{class("B", "Object", 0, "A", "C"), api.Incompatible}, {class("B", "Object", 0, "A", "p/ShutI"), api.Incompatible},
		{class("B", "Object", 0, "p/ShutI", "C"), api.IllegalAccess}, {class("B", "Object", 0, "p/ShutI", "A"), api.IllegalAccess},
		{class("B", "Object", 0, "I", "p/ShutI", "J", "A", "C"), api.IllegalAccess},
	} {
		refused(t, w, x.c, x.want)
	}
}

func TestDefineTakes(t *testing.T) { // P6.2
	w := town(t)
	for _, c := range []api.Class{
		class("B", "A", 0), class("q/B", "p/Open", api.Public, "I", "J", "p/OpenI"),
		class("p/B", "p/Shut", 0, "p/ShutI"), class("p/C", "Object", hiddenIface, "p/ShutI", "p/OpenI"),
		class("B2", "Bare", 0, "BareI"), loaded(3, class("p/D", "p/Far", 0, "p/FarI")), loaded(3, class("p/E", "p/Open", 0, "p/OpenI")),
		loaded(9, class("r/s/t", "A", api.Public|api.Final, "I", "Cloneable", "Serializable")),
		class("Low", "r/s/t", api.AbstractFl), // a final class may have one below it: no promise refuses it
		loaded(3, class("p/Below", "p/D", api.Public)),
	} {
		defineAs(t, w, c, w.Len())
		if id, e := w.ByName(c.Name); id != w.Len()-1 || e != api.OK {
			t.Errorf("ByName(%q) = %d, %d", c.Name, id, e)
		}
	}
	many := class("Many", "A", 0)
	for n := range api.MaxIfaces {
		name := fmt.Sprint("many/I", n)
		defineAs(t, w, class(name, "Object", ifaceFlags), w.Len())
		many.Ifaces = append(many.Ifaces, name)
	}
	defineAs(t, w, many, w.Len())
	if list, _ := w.Closure(w.Len() - 1); nameList(t, w, list) != strings.Join(many.Ifaces, " ") {
		t.Errorf("Closure = %s", nameList(t, w, list))
	}
}

func TestDefineFullWorld(t *testing.T) { // P6.2: MaxClasses, and one more
	w := town(t)
	fill(t, w)
	if w.Len() != 300 {
		t.Fatalf("Len() = %d", w.Len())
	}
	for _, c := range []api.Class{class("B", "Object", 0), class("A", "Object", 0), class("B", "C", 0), class("B", "I", 0), class("B", "p/Shut", 0), class("B", "Object", 0, "C"), class("B", "Object", 0, "A"), class("Object", "A", 0)} {
		if id, e := w.Define(c); id != 0 || e != api.ErrLarge {
			t.Errorf("Define(%s) in a full world = %d, %d", show(c), id, e)
		}
	}
	for _, c := range []api.Class{{}, class("1", "Object", 0), loaded(10, class("A", "C", 0))} {
		if id, e := w.Define(c); id != 0 || e != api.ErrForm {
			t.Errorf("Define(%s) in a full world = %d, %d", show(c), id, e)
		}
	}
	if _, e := w.ByName("B"); e != api.ErrNone || w.Len() != 300 {
		t.Errorf("a full world has taken a class")
	}
	for id, want := range map[int]api.Errno{299: api.OK, 300: api.ErrRange, 301: api.ErrRange} {
		if _, e := w.Class(id); e != want {
			t.Errorf("Class(%d): %d", id, e)
		}
	}
}

func TestRefusedClassMayComeAgain(t *testing.T) { // R5
	w := New()
	b := class("B", "A", 0, "I")
	refused(t, w, b, api.NoClassDef)
	defineAs(t, w, class("A", "Object", 0), 3)
	refused(t, w, b, api.NoClassDef)
	refused(t, w, class("A", "Object", api.Public), api.Linkage)
	if c, _ := w.Class(3); c.Flags != 0 {
		t.Errorf("a class that was refused is there: %s", show(c))
	}
	defineAs(t, w, class("I", "Object", ifaceFlags), 4)
	defineAs(t, w, b, 5)
	if list, _ := w.Chain(5); !slices.Equal(list, []int{5, 3, 0}) {
		t.Errorf("Chain = %v", list)
	}
}

func TestClassAsItArrived(t *testing.T) { // P6.3
	w := town(t)
	c := fullClass("p/Full")
	defineAs(t, w, c, w.Len())
	got, e := w.Class(w.Len() - 1)
	if e != api.OK || !reflect.DeepEqual(twin(got), twin(c)) {
		t.Errorf("Class = %s, %d", show(got), e)
	}
	for _, name := range []string{"", "B", "a", "Objec", "Objectx", "object", "p/Object", "/Object", "Object/", "p", "p/", "Full", "Object\x00", "\xff"} {
		if id, e := w.ByName(name); id != 0 || e != api.ErrNone {
			t.Errorf("ByName(%q) = %d, %d", name, id, e)
		}
	}
}

// fullClass has lists of all kinds.
func fullClass(name string) api.Class {
	ref := api.Ref{Iface: true, Class: "I", Name: "m", Desc: "()V"}
	return api.Class{Name: name, Super: "A", Ifaces: []string{"J", "I"}, Flags: api.Public | api.Super, Loader: 0, Methods: []api.Method{
		{Name: "m", Desc: "(I)I", Flags: api.Static, Locals: 3, Stack: 2, Code: []api.Inst{{Op: api.ILoad, N: 0}, {Op: api.IReturn}}},
		{Name: "k", Desc: "()V", Flags: api.Public, Locals: 1, Stack: 1, Code: []api.Inst{{Op: api.ALoad}, {Op: api.InvInterface, Ref: ref}, {Op: api.New, Type: "A"}, {Op: api.Pop}, {Op: api.Return}}},
		{Name: "m", Desc: "()I", Flags: api.Private, Locals: 1, Stack: 1, Code: []api.Inst{{Op: api.IConst, N: -1}, {Op: api.IReturn}}},
		{Name: "n", Desc: "()V", Locals: 1, Code: []api.Inst{{Op: api.Return}}},
	}}
}

func TestNumbers(t *testing.T) { // P6.3 to P6.6: both edges, one beyond, below 0
	w := town(t)
	last := w.Len() - 1
	for _, id := range []int{0, 1, last} {
		if _, e := w.Class(id); e != api.OK {
			t.Errorf("Class(%d): %d", id, e)
		}
		if _, e := w.Depth(id); e != api.OK {
			t.Errorf("Depth(%d): %d", id, e)
		}
	}
	for _, id := range []int{-1, -2, last + 1, last + 2, 299, 300, math.MaxInt, math.MinInt, 1 << 32} {
		if got, want := everyAnswer(w, id), answersAtNoClass(api.ErrRange); !reflect.DeepEqual(got, want) {
			t.Errorf("at %d: %v", id, got)
		}
	}
}

// everyAnswer is what the calls on a number answer, with the lists empty.
func everyAnswer(w *World, id int) []any {
	var out []any
	add := func(things ...any) { out = append(out, things...) }
	c, e := w.Class(id)
	add(c, e)
	n, e := w.Super(id)
	add(n, e)
	n, e = w.Depth(id)
	add(n, e)
	list, e := w.Chain(id)
	add(len(list), e)
	list, e = w.Closure(id)
	add(len(list), e)
	n, e = w.Find(id, "id", "()I")
	add(n, e)
	m, e := w.Method(api.MethodID{Class: id})
	add(m, e)
	for _, other := range []int{0, 1, id, 3, -1} {
		add(w.Extends(id, other), w.Extends(other, id), w.SamePackage(id, other), w.SamePackage(other, id))
	}
	add(w.IsIface(id))
	return out
}

func answersAtNoClass(e api.Errno) []any {
	out := []any{api.Class{}, e, 0, e, 0, e, 0, e, 0, e, 0, e, api.Method{}, e}
	for range 21 {
		out = append(out, false)
	}
	return out
}

func TestSuper(t *testing.T) { // P6.4
	w := worldOf(t, class("A", "Object", 0), class("I", "Object", ifaceFlags, "Cloneable"), class("B", "A", 0, "I"), class("C", "B", 0), class("D", "A", 0))
	if id, e := w.Super(0); id != 0 || e != api.ErrNone {
		t.Errorf("Super(0) = %d, %d", id, e)
	}
	for id, want := range []int{-1, 0, 0, 0, 0, 3, 5, 3} {
		if id == 0 {
			continue
		}
		if got, e := w.Super(id); got != want || e != api.OK {
			t.Errorf("Super(%d) = %d, %d, want %d", id, got, e, want)
		}
	}
}

func TestLongChain(t *testing.T) { // P6.4, P6.5: as many classes as a world can have, in one chain
	w := New()
	super := "Object"
	for w.Len() < api.MaxClasses {
		c := class(fmt.Sprint("C", w.Len()), super, 0)
		defineAs(t, w, c, w.Len())
		super = c.Name
	}
	for _, id := range []int{3, 4, 150, 298, 299} {
		want := []int{}
		for n := id; n > 2; n-- {
			want = append(want, n)
		}
		want = append(want, 0)
		if got, e := w.Chain(id); e != api.OK || !slices.Equal(got, want) {
			t.Errorf("Chain(%d) = %s, %d", id, show(got), e)
		}
		if got, e := w.Depth(id); got != id-2 || e != api.OK {
			t.Errorf("Depth(%d) = %d, %d", id, got, e)
		}
		if got, e := w.Closure(id); len(got) != 0 || e != api.OK {
			t.Errorf("Closure(%d) = %s, %d", id, show(got), e)
		}
	}
	for _, x := range []struct {
		a, b int
		want bool
	}{{299, 0, true}, {299, 3, true}, {299, 298, true}, {299, 299, true}, {298, 299, false}, {3, 299, false}, {299, 1, false}, {299, 2, false}} {
		if w.Extends(x.a, x.b) != x.want {
			t.Errorf("Extends(%d, %d) is not %v", x.a, x.b, x.want)
		}
	}
}

func TestLongClosure(t *testing.T) { // P6.4: interfaces, each below all the 20 ahead of it
	w := New()
	for w.Len() < api.MaxClasses-1 {
		c := class(fmt.Sprint("I", w.Len()), "Object", ifaceFlags)
		for n := w.Len() - 1; n > 2 && len(c.Ifaces) < api.MaxIfaces; n-- {
			c.Ifaces = append(c.Ifaces, fmt.Sprint("I", n))
		}
		defineAs(t, w, c, w.Len())
	}
	defineAs(t, w, class("C", "Object", 0, "I298"), 299)
	for _, id := range []int{3, 4, 24, 150, 298, 299} {
		want := []int{}
		for n := 3; n < id; n++ {
			want = append(want, n)
		}
		if got, e := w.Closure(id); e != api.OK || !slices.Equal(got, want) {
			t.Errorf("Closure(%d) = %s, %d", id, show(got), e)
		}
		if got, e := w.Depth(id); got != 1 || e != api.OK {
			t.Errorf("Depth(%d) = %d, %d", id, got, e)
		}
		if got, e := w.Chain(id); e != api.OK || !slices.Equal(got, []int{id, 0}) {
			t.Errorf("Chain(%d) = %s, %d", id, show(got), e)
		}
	}
	if !w.Extends(299, 3) || !w.Extends(299, 298) || w.Extends(3, 299) || w.Extends(3, 4) || !w.Extends(4, 3) {
		t.Errorf("Extends of interfaces far above")
	}
}

func TestClosureOrder(t *testing.T) { // P6.4: interfaces that are reached by several ways
	w := worldOf(t,
		class("I", "Object", ifaceFlags), class("J", "Object", ifaceFlags), class("K", "Object", ifaceFlags),
		class("IJ", "Object", ifaceFlags, "I", "J"), class("JI", "Object", ifaceFlags, "J", "I"), class("KJ", "Object", ifaceFlags, "K", "J"),
		class("A", "Object", api.Public, "JI"), class("B", "A", api.Public, "KJ", "I"), class("C", "B", api.Public), class("D", "C", api.Public, "IJ", "JI", "K"),
		class("Deep", "Object", ifaceFlags, "KJ", "IJ"), class("E", "Object", 0, "Deep", "JI", "K"), class("F", "A", 0, "Deep"), class("G", "Object", 0, "K", "Deep"), class("H", "G", 0, "I", "Cloneable"),
	)
	for name, want := range map[string]string{
		"Object": "", "Cloneable": "", "I": "", "IJ": "I J", "JI": "J I", "KJ": "K J",
		"A": "J I JI", "B": "J I JI K KJ", "C": "J I JI K KJ", "D": "J I JI K KJ IJ",
		"Deep": "K J KJ I IJ", "E": "K J KJ I IJ Deep JI", "F": "J I JI K KJ IJ Deep", "G": "K J KJ I IJ Deep", "H": "K J KJ I IJ Deep Cloneable",
	} {
		list, e := w.Closure(idOf(t, w, name))
		if got := nameList(t, w, list); e != api.OK || got != want {
			t.Errorf("Closure of %s: %s, %d, want %s", name, got, e, want)
		}
	}
}

func TestExtends(t *testing.T) { // P6.5
	w := worldOf(t, class("I", "Object", ifaceFlags), class("J", "Object", ifaceFlags, "I"), class("A", "Object", api.Public, "J"), class("B", "A", api.Public), class("C", "A", api.Public, "Cloneable"))
	above := map[string]string{"Object": "", "Cloneable": "Object", "I": "Object", "J": "Object I", "A": "Object I J", "B": "Object I J A", "C": "Object I J A Cloneable"}
	for a, list := range above {
		for b := range above {
			want := a == b || slices.Contains(strings.Fields(list), b)
			if w.Extends(idOf(t, w, a), idOf(t, w, b)) != want {
				t.Errorf("Extends(%s, %s) is not %v", a, b, want)
			}
		}
	}
	for _, none := range []int{-1, w.Len(), math.MinInt, math.MaxInt} {
		if w.Extends(none, 0) || w.Extends(0, none) || w.Extends(none, none) || w.Extends(none, 1) || w.Extends(7, none) {
			t.Errorf("Extends at %d", none)
		}
	}
}

func TestIsIface(t *testing.T) { // P6.5
	w := worldOf(t, class("A", "Object", api.Public|api.AbstractFl), class("I", "Object", ifaceFlags), class("p/I", "Object", hiddenIface), class("B", "A", 0, "I"))
	for id, want := range []bool{false, true, true, false, true, true, false, false} {
		if w.IsIface(id) != want {
			t.Errorf("IsIface(%d) is not %v", id, want)
		}
	}
	if w.IsIface(-1) || w.IsIface(math.MaxInt) || w.IsIface(math.MinInt) {
		t.Errorf("IsIface of no number")
	}
}

func TestSamePackage(t *testing.T) { // P6.5
	w := worldOf(t, class("A", "Object", 0), class("p/A", "Object", 0), class("p/B", "Object", 0), class("p/q/A", "Object", 0), class("q/A", "Object", 0),
		loaded(1, class("p/C", "Object", 0)), loaded(1, class("p/D", "Object", ifaceFlags)), loaded(1, class("B", "Object", 0)), loaded(1, class("q/B", "Object", 0)))
	groups := map[string]int{"Object": 1, "Cloneable": 1, "Serializable": 1, "A": 1, "p/A": 2, "p/B": 2, "p/q/A": 3, "q/A": 4, "p/C": 5, "p/D": 5, "B": 6, "q/B": 7}
	for a := range groups {
		for b := range groups {
			if want := groups[a] == groups[b]; w.SamePackage(idOf(t, w, a), idOf(t, w, b)) != want {
				t.Errorf("SamePackage(%s, %s) is not %v", a, b, want)
			}
		}
	}
	for _, none := range []int{-1, w.Len(), math.MinInt, math.MaxInt} {
		if w.SamePackage(none, none) || w.SamePackage(0, none) || w.SamePackage(none, 0) {
			t.Errorf("SamePackage at %d", none)
		}
	}
}

func TestFindAndMethod(t *testing.T) { // P6.6
	w := town(t)
	defineAs(t, w, fullClass("Full"), w.Len())
	defineAs(t, w, class("Below", "Full", 0), w.Len())
	many := class("Most", "Object", 0)
	for n := range api.MaxMethods {
		many.Methods = append(many.Methods, api.Method{Name: fmt.Sprint("m", n/2), Desc: []string{"()V", "()I"}[n%2], Flags: api.Static, Locals: n, Code: []api.Inst{{Op: api.Goto, N: 0}}})
	}
	defineAs(t, w, many, w.Len())
	full, below, most := w.Len()-3, w.Len()-2, w.Len()-1
	for _, x := range []struct {
		id         int
		name, desc string
		want       int
		e          api.Errno
	}{
		{full, "m", "(I)I", 0, api.OK}, {full, "k", "()V", 1, api.OK}, {full, "m", "()I", 2, api.OK}, {full, "n", "()V", 3, api.OK},
		{full, "m", "()V", 0, api.ErrNone}, {full, "k", "()I", 0, api.ErrNone}, {full, "", "", 0, api.ErrNone}, {full, "m", "", 0, api.ErrNone}, {full, "", "()I", 0, api.ErrNone}, {full, "()I", "m", 0, api.ErrNone}, {full, "M", "()I", 0, api.ErrNone},
		{full, "id", "()I", 0, api.ErrNone}, {below, "m", "()I", 0, api.ErrNone}, {0, "id", "()I", 1, api.OK}, {0, "kin", "()LObject;", 2, api.OK}, {1, "id", "()I", 0, api.ErrNone},
		{most, "m0", "()V", 0, api.OK}, {most, "m19", "()I", 39, api.OK}, {most, "m20", "()V", 0, api.ErrNone},
		{-1, "m", "()I", 0, api.ErrRange}, {w.Len(), "m", "()I", 0, api.ErrRange}, {w.Len(), "", "", 0, api.ErrRange},
	} {
		if got, e := w.Find(x.id, x.name, x.desc); got != x.want || e != x.e {
			t.Errorf("Find(%d, %q, %q) = %d, %d, want %d, %d", x.id, x.name, x.desc, got, e, x.want, x.e)
		}
	}
	for _, id := range []int{full, most, 0} {
		c, _ := w.Class(id)
		for place, want := range c.Methods {
			if got, e := w.Method(api.MethodID{Class: id, Index: place}); e != api.OK || !reflect.DeepEqual(methodTwin(got), methodTwin(want)) {
				t.Errorf("Method(%d, %d) = %s, %d", id, place, show(got), e)
			}
		}
	}
	for _, m := range []api.MethodID{{Class: full, Index: -1}, {Class: full, Index: 4}, {Class: most, Index: 40}, {Class: most, Index: -1}, {Class: 0, Index: 3}, {Class: 1, Index: 0}, {Class: below, Index: 0}, {Class: -1, Index: 0}, {Class: w.Len(), Index: 0}, {Class: math.MaxInt, Index: math.MaxInt}, {Class: math.MinInt, Index: math.MinInt}, {Class: full, Index: math.MaxInt}, {Class: full, Index: math.MinInt}} {
		if got, e := w.Method(m); e != api.ErrRange || !reflect.DeepEqual(got, api.Method{}) {
			t.Errorf("Method(%v) = %s, %d", m, show(got), e)
		}
	}
}

func TestNilWorld(t *testing.T) { // P6.7
	var w *World
	for _, c := range []api.Class{{}, class("A", "Object", 0), class("A", "B", 0), class("Object", "Object", 0), loaded(10, class("A", "Object", 0))} {
		if id, e := w.Define(c); id != 0 || e != api.ErrArg {
			t.Errorf("Define(%s) = %d, %d", show(c), id, e)
		}
	}
	for _, name := range []string{"", "Object", "A"} {
		if id, e := w.ByName(name); id != 0 || e != api.ErrNone {
			t.Errorf("ByName(%q) = %d, %d", name, id, e)
		}
	}
	if w.Len() != 0 {
		t.Errorf("Len() = %d", w.Len())
	}
	for _, id := range []int{0, 1, -1, 3, math.MaxInt, math.MinInt} {
		if got, want := everyAnswer(w, id), answersAtNoClass(api.ErrRange); !reflect.DeepEqual(got, want) {
			t.Errorf("at %d: %v", id, got)
		}
	}
	if _, e := w.Find(0, "", ""); e != api.ErrRange {
		t.Errorf("Find: %d", e)
	}
}

func TestZeroWorld(t *testing.T) { // P0.1: a world that New did not make has no class, and nothing panics on it
	w := &World{}
	for c, want := range map[string]api.Errno{"A": api.NoClassDef, "1": api.ErrForm} {
		if id, e := w.Define(class(c, "Object", 0)); id != 0 || e != want {
			t.Errorf("Define(%s) = %d, %d", c, id, e)
		}
	}
	if got, want := everyAnswer(w, 0), answersAtNoClass(api.ErrRange); !reflect.DeepEqual(got, want) {
		t.Errorf("%v", got)
	}
	if _, e := w.ByName("Object"); e != api.ErrNone || w.Len() != 0 {
		t.Errorf("ByName: %d, Len: %d", e, w.Len())
	}
}

func TestLaterClassesTurnNothing(t *testing.T) { // P0.3
	w := town(t)
	defineAs(t, w, fullClass("Full"), w.Len())
	defineAs(t, w, class("FullBelow", "Full", api.Public, "Serializable"), w.Len())
	count := w.Len()
	before := everything(w, count)
	for n := 0; w.Len() < api.MaxClasses; n++ {
		super := []string{"Object", "Full", "FullBelow", "A"}[n%4]
		defineAs(t, w, class(fmt.Sprint("later/C", n), super, api.Public, "I", "Cloneable", "J"), w.Len())
		if n < 5 || w.Len() == api.MaxClasses {
			if !reflect.DeepEqual(everything(w, count), before) {
				t.Fatalf("the class %d turned what was answered about others", w.Len()-1)
			}
		}
	}
}

func TestSameAnswers(t *testing.T) { // R8
	build := func() []facts {
		w := town(t)
		defineAs(t, w, fullClass("Full"), w.Len())
		return everything(w, w.Len())
	}
	first := build()
	for range 5 {
		if !reflect.DeepEqual(build(), first) {
			t.Fatalf("the same classes, other answers")
		}
	}
}
