package maxspec

import (
	"fmt"
	"math"
	"slices"
	"strings"
	"testing"

	"arbiter/api"
	"arbiter/hier"
)

// The flags of interfaces' methods.
const (
	normal   = api.Public
	abstract = api.Public | api.AbstractFl
	static   = api.Public | api.Static
	shut     = api.Private
)

var oddNumbers = []int{-1, math.MinInt, math.MaxInt, -2, api.MaxClasses, api.MaxClasses + 1, 1 << 32, -1 << 32, 1<<32 + 1}

// method has the descriptor ()V, unless its name brings one.
func method(name string, flags int) api.Method {
	m := api.Method{Name: name, Desc: "()V", Flags: flags}
	if at := strings.Index(name, "("); at >= 0 {
		m.Name, m.Desc = name[:at], name[at:]
	}
	if flags&api.AbstractFl == 0 {
		m.Locals, m.Code = 4, []api.Inst{{Op: api.Return}}
	}
	return m
}

func class(name, super string, methods ...api.Method) api.Class {
	return api.Class{Name: name, Super: super, Flags: api.Public | api.Super | api.AbstractFl, Methods: methods}
}

func iface(name string, methods ...api.Method) api.Class {
	return api.Class{Name: name, Super: "Object", Flags: api.Public | api.Interface | api.AbstractFl, Methods: methods}
}

// m makes an interface with a method m.
func m(name string, flags int) api.Class {
	return iface(name, method("m", flags))
}

func of(c api.Class, ifaces ...string) api.Class {
	c.Ifaces = ifaces
	return c
}

func list(classes ...api.Class) []api.Class {
	return classes
}

func define(t *testing.T, w *hier.World, c api.Class) int {
	t.Helper()
	id, e := w.Define(c)
	if e != api.OK {
		t.Fatalf("Define(%v): %d", c, e)
	}
	return id
}

func worldOf(t *testing.T, classes ...api.Class) *hier.World {
	t.Helper()
	w := hier.New()
	for _, c := range classes {
		define(t, w, c)
	}
	return w
}

func number(t *testing.T, w *hier.World, name string) int {
	t.Helper()
	id, e := w.ByName(name)
	if e != api.OK {
		t.Fatalf("ByName(%s): %d", name, e)
	}
	return id
}

// at finds the methods of this name, in the interfaces that a text lists.
func at(t *testing.T, w *hier.World, name, ifaces string) []api.MethodID {
	t.Helper()
	var ids []api.MethodID
	for _, word := range strings.Fields(ifaces) {
		want, id := method(name, 0), number(t, w, word)
		index, e := w.Find(id, want.Name, want.Desc)
		if e != api.OK {
			t.Fatalf("Find(%s, %s): %d", word, name, e)
		}
		ids = append(ids, api.MethodID{Class: id, Index: index})
	}
	return ids
}

// answers is what the four calls are to answer of a class, by the names of interfaces. The answer of Some goes with all.
type answers struct {
	all, max, one string
	err           api.Errno // of One
}

// holds asks all calls about a method of a class.
func holds(t *testing.T, w *hier.World, c, name string, want answers) {
	t.Helper()
	id, of := number(t, w, c), method(name, 0)
	all, best := at(t, w, name, want.all), at(t, w, name, want.max)
	if got, e := Candidates(w, id, of.Name, of.Desc); !slices.Equal(got, all) || e != api.OK {
		t.Errorf("Candidates(%s, %s) = %v, %d, want %v", c, name, got, e, all)
	}
	if got, e := Max(w, id, of.Name, of.Desc); !slices.Equal(got, best) || e != api.OK {
		t.Errorf("Max(%s, %s) = %v, %d, want %v", c, name, got, e, best)
	}
	one := append(at(t, w, name, want.one), api.MethodID{})[0]
	if got, e := One(w, id, of.Name, of.Desc); got != one || e != want.err {
		t.Errorf("One(%s, %s) = %v, %d, want %v, %d", c, name, got, e, one, want.err)
	}
	some, someErr := append(all, api.MethodID{})[0], api.OK
	if len(all) == 0 {
		someErr = api.ErrNone
	}
	if got, e := Some(w, id, of.Name, of.Desc); got != some || e != someErr {
		t.Errorf("Some(%s, %s) = %v, %d, want %v, %d", c, name, got, e, some, someErr)
	}
}

func hasNone(t *testing.T, w *hier.World, c, name string) {
	t.Helper()
	holds(t, w, c, name, answers{err: api.Abstract})
}

// refused asks that all calls answer this error, and nothing beside it.
func refused(t *testing.T, w *hier.World, want api.Errno, c int, name, desc string) {
	t.Helper()
	if got, e := Candidates(w, c, name, desc); len(got) != 0 || e != want {
		t.Errorf("Candidates(%d, %q, %q) = %v, %d, want %d", c, name, desc, got, e, want)
	}
	if got, e := Max(w, c, name, desc); len(got) != 0 || e != want {
		t.Errorf("Max(%d, %q, %q) = %v, %d, want %d", c, name, desc, got, e, want)
	}
	if got, e := One(w, c, name, desc); got != (api.MethodID{}) || e != want {
		t.Errorf("One(%d, %q, %q) = %v, %d, want %d", c, name, desc, got, e, want)
	}
	if got, e := Some(w, c, name, desc); got != (api.MethodID{}) || e != want {
		t.Errorf("Some(%d, %q, %q) = %v, %d, want %d", c, name, desc, got, e, want)
	}
}

func TestCandidatesInTheOrderOfTheClosure(t *testing.T) { // P10.1, P10.4
	for _, c := range []struct {
		what    string
		classes []api.Class
		all     string
	}{
		{"one that it names", list(m("I", normal), of(class("C", "Object"), "I")), "I"},
		{"as it names them", list(m("I", normal), m("J", normal), of(class("C", "Object"), "I", "J")), "I J"},
		{"as it names them, not as they arrived", list(m("I", normal), m("J", normal), of(class("C", "Object"), "J", "I")), "J I"},
		{"the superclass's ahead", list(m("I", normal), m("J", normal), of(class("S", "Object"), "J"), of(class("C", "S"), "I")), "J I"},
		{"the superclass's alone", list(m("I", normal), of(class("S", "Object"), "I"), class("D", "S"), class("C", "D")), "I"},
		{"of both one", list(m("I", normal), m("J", normal), of(class("S", "Object"), "J"), of(class("C", "S"), "I", "J")), "J I"},
		{"what is above an interface ahead of it", list(m("I", normal), of(m("J", normal), "I"), of(class("C", "Object"), "J")), "I J"},
		{"each once", list(m("I", normal), of(m("J", normal), "I"), of(m("K", normal), "I"), of(class("C", "Object"), "K", "J", "I")), "I K J"},
		{"of an interface", list(m("I", normal), m("J", normal), of(m("C", normal), "J", "I")), "J I"},
		{"of an interface, far above", list(m("I", normal), of(iface("J"), "I"), of(iface("K"), "J"), of(iface("C"), "K")), "I"},
		{"interfaces without one between", list(m("I", normal), of(iface("J"), "I"), m("K", abstract), of(class("C", "Object"), "Cloneable", "J", "Serializable", "K")), "I K"},
		{"abstract ones too", list(m("I", abstract), m("J", normal), m("K", abstract), of(class("C", "Object"), "K", "J", "I")), "K J I"},
	} {
		w := worldOf(t, c.classes...)
		want := at(t, w, "m", c.all)
		if got, e := Candidates(w, number(t, w, "C"), "m", "()V"); !slices.Equal(got, want) || e != api.OK {
			t.Errorf("%s: Candidates = %v, %d, want %v", c.what, got, e, want)
		}
		if got, e := Some(w, number(t, w, "C"), "m", "()V"); got != want[0] || e != api.OK {
			t.Errorf("%s: Some = %v, %d, want %v", c.what, got, e, want[0])
		}
	}
}

// TestWhichMethodsAreCandidates begins with one that is, and turns one thing at a time.
func TestWhichMethodsAreCandidates(t *testing.T) { // P10.1
	for _, c := range []struct {
		what string
		m    api.Method
		want bool
	}{
		{"as it is asked", method("m", normal), true},
		{"abstract", method("m", abstract), true},
		{"another Name", method("n", normal), false},
		{"a longer Name", method("mm", normal), false},
		{"another case", method("M", normal), false},
		{"another argument", method("m(I)V", normal), false},
		{"another answer", method("m()LObject;", abstract), false},
		{"Private", method("m", shut), false},
		{"Static", method("m", static), false},
		{"Private and Static", method("m", shut|api.Static), false},
	} {
		w := worldOf(t, iface("I", c.m), of(class("C", "Object"), "I"), of(iface("J"), "I"))
		for _, of := range []string{"C", "J"} {
			if !c.want {
				hasNone(t, w, of, "m")
				continue
			}
			got, e := Candidates(w, number(t, w, of), "m", "()V")
			if want := at(t, w, "m", "I"); !slices.Equal(got, want) || e != api.OK {
				t.Errorf("%s: Candidates(%s) = %v, %d", c.what, of, got, e)
			}
		}
	}
}

func TestAMethodAmongOthers(t *testing.T) { // P10.1: its place among the interface's methods is told
	w := worldOf(t, iface("I", method("n", normal), method("m(I)V", normal), method("m", normal), method("m(II)V", shut)),
		iface("J", method("m", abstract), method("m(I)V", static), method("n", shut)), of(class("C", "Object"), "I", "J"))
	for _, c := range []struct {
		name, desc string
		want       []api.MethodID
	}{
		{"m", "()V", []api.MethodID{{Class: 3, Index: 2}, {Class: 4, Index: 0}}},
		{"m", "(I)V", []api.MethodID{{Class: 3, Index: 1}}},
		{"m", "(II)V", nil},
		{"n", "()V", []api.MethodID{{Class: 3, Index: 0}}},
		{"n", "(I)V", nil},
	} {
		if got, e := Candidates(w, 5, c.name, c.desc); !slices.Equal(got, c.want) || e != api.OK {
			t.Errorf("Candidates(%s %s) = %v, %d, want %v", c.name, c.desc, got, e, c.want)
		}
	}
	holds(t, w, "C", "m", answers{all: "I J", max: "I J", one: "I"})
	holds(t, w, "C", "m(I)V", answers{all: "I", max: "I", one: "I"})
	holds(t, w, "C", "n", answers{all: "I", max: "I", one: "I"})
}

func TestItsOwnMethodsDoNotCount(t *testing.T) { // P10.1
	w := worldOf(t, m("I", abstract), of(m("J", normal), "I"), class("S", "Object", method("m", normal)), of(class("C", "S", method("m", normal)), "J"), class("D", "C", method("m", normal)))
	hasNone(t, w, "I", "m")
	holds(t, w, "J", "m", answers{all: "I", max: "I", err: api.Abstract})
	hasNone(t, w, "S", "m")
	for _, c := range []string{"C", "D"} {
		holds(t, w, c, "m", answers{all: "I J", max: "J", one: "J"})
	}
}

func TestTheFirstClasses(t *testing.T) { // P10.1: Object's methods are of no interface
	w := worldOf(t, iface("I", method("id()I", abstract)), of(class("C", "Object"), "I", "Cloneable", "Serializable"))
	for _, c := range []string{"Object", "Cloneable", "Serializable", "I"} {
		for _, name := range []string{"<init>", "id()I", "kin()LObject;", "m"} {
			hasNone(t, w, c, name)
		}
	}
	holds(t, w, "C", "id()I", answers{all: "I", max: "I", err: api.Abstract})
	hasNone(t, w, "C", "kin()LObject;")
	hasNone(t, w, "C", "<init>")
}

func TestMaxAndOne(t *testing.T) { // P10.2, P10.3
	for _, c := range []struct {
		what    string
		classes []api.Class
		want    answers
	}{
		{"one extends the other", list(m("I", normal), of(m("J", normal), "I"), of(class("C", "Object"), "J")), answers{"I J", "J", "J", 0}},
		{"and the upper one is named too", list(m("I", normal), of(m("J", normal), "I"), of(class("C", "Object"), "I", "J")), answers{"I J", "J", "J", 0}},
		{"by way of one that has none", list(m("I", normal), of(iface("X"), "I"), of(m("J", normal), "X"), of(class("C", "Object"), "J")), answers{"I J", "J", "J", 0}},
		{"by way of two that have none", list(m("I", normal), of(iface("X"), "I"), of(iface("Y"), "X"), of(m("J", normal), "Y"), of(class("C", "Object"), "J")), answers{"I J", "J", "J", 0}},
		{"by way of a private one", list(m("I", normal), of(m("X", shut), "I"), of(m("J", normal), "X"), of(class("C", "Object"), "J")), answers{"I J", "J", "J", 0}},
		{"by way of a static one", list(m("I", normal), of(m("X", static), "I"), of(m("J", normal), "X"), of(class("C", "Object"), "J")), answers{"I J", "J", "J", 0}},
		{"a private one leaves none out", list(m("I", normal), of(m("J", shut), "I"), of(class("C", "Object"), "J")), answers{"I", "I", "I", 0}},
		{"a static one leaves none out", list(m("I", normal), of(m("J", static), "I"), of(class("C", "Object"), "J")), answers{"I", "I", "I", 0}},
		{"one of another Desc leaves none out", list(m("I", normal), of(iface("J", method("m(I)V", normal)), "I"), of(class("C", "Object"), "J")), answers{"I", "I", "I", 0}},
		{"three in a row", list(m("I", normal), of(m("J", normal), "I"), of(m("K", normal), "J"), of(class("C", "Object"), "K")), answers{"I J K", "K", "K", 0}},
		{"the lowest of three named first", list(m("I", normal), of(m("J", normal), "I"), of(m("K", normal), "J"), of(class("C", "Object"), "K", "J", "I")), answers{"I J K", "K", "K", 0}},
		{"the class names them from the top down", list(m("I", normal), of(m("J", normal), "I"), of(m("K", normal), "J"), of(class("C", "Object"), "I", "J", "K")), answers{"I J K", "K", "K", 0}},
		{"an abstract one leaves out one that is not", list(m("I", normal), of(m("J", abstract), "I"), of(class("C", "Object"), "J")), answers{"I J", "J", "", api.Abstract}},
		{"beside each other", list(m("I", normal), m("J", normal), of(class("C", "Object"), "J", "I")), answers{"J I", "J I", "", api.Incompatible}},
		{"one above several", list(m("I", normal), of(m("J", normal), "I"), of(m("K", normal), "I"), of(m("L", normal), "I"), of(class("C", "Object"), "L", "J", "K")), answers{"I L J K", "L J K", "", api.Incompatible}},
		{"one above one of two", list(m("I", normal), of(m("J", normal), "I"), m("K", normal), of(class("C", "Object"), "K", "J")), answers{"K I J", "K J", "", api.Incompatible}},
		{"several above one", list(m("I", normal), m("J", normal), m("K", normal), of(m("L", normal), "K", "I", "J"), of(class("C", "Object"), "L")), answers{"K I J L", "L", "L", 0}},
		{"several above one, some by way of others", list(m("I", normal), of(iface("X"), "I"), m("J", normal), m("B", normal), of(m("L", normal), "X", "J"), of(class("C", "Object"), "L", "B")), answers{"I J L B", "L B", "", api.Incompatible}},
		{"the superclass has the lower one", list(m("I", normal), of(m("J", normal), "I"), of(class("S", "Object"), "J"), of(class("C", "S"), "I")), answers{"I J", "J", "J", 0}},
		{"the superclass has the upper one", list(m("I", normal), of(m("J", normal), "I"), of(class("S", "Object"), "I"), of(class("C", "S"), "J")), answers{"I J", "J", "J", 0}},
		{"the superclass's and the class's beside each other", list(m("I", normal), m("J", normal), of(class("S", "Object"), "J"), of(class("C", "S"), "I")), answers{"J I", "J I", "", api.Incompatible}},
		{"of an interface", list(m("I", normal), of(m("J", normal), "I"), m("K", abstract), of(m("C", normal), "K", "J")), answers{"K I J", "K J", "J", 0}},
		{"no method at all", list(of(class("C", "Object"), "Cloneable")), answers{"", "", "", api.Abstract}},
		{"one abstract", list(m("I", abstract), of(class("C", "Object"), "I")), answers{"I", "I", "", api.Abstract}},
		{"abstract ones alone", list(m("I", abstract), m("J", abstract), m("K", abstract), of(class("C", "Object"), "I", "J", "K")), answers{"I J K", "I J K", "", api.Abstract}},
		{"the first not abstract", list(m("I", normal), m("J", abstract), m("K", abstract), of(class("C", "Object"), "I", "J", "K")), answers{"I J K", "I J K", "I", 0}},
		{"the middle one not abstract", list(m("I", abstract), m("J", normal), m("K", abstract), of(class("C", "Object"), "I", "J", "K")), answers{"I J K", "I J K", "J", 0}},
		{"the last not abstract", list(m("I", abstract), m("J", abstract), m("K", normal), of(class("C", "Object"), "I", "J", "K")), answers{"I J K", "I J K", "K", 0}},
		{"two not abstract beside an abstract one", list(m("I", normal), m("J", abstract), m("K", normal), of(class("C", "Object"), "I", "J", "K")), answers{"I J K", "I J K", "", api.Incompatible}},
		{"three not abstract", list(m("I", normal), m("J", normal), m("K", normal), of(class("C", "Object"), "I", "J", "K")), answers{"I J K", "I J K", "", api.Incompatible}},
		{"one left out is not counted", list(m("I", normal), of(m("J", abstract), "I"), m("K", normal), of(class("C", "Object"), "J", "K")), answers{"I J K", "J K", "K", 0}},
	} {
		t.Run(c.what, func(t *testing.T) {
			holds(t, worldOf(t, c.classes...), "C", "m", c.want)
		})
	}
}

// TestManyBeside: as many interfaces as a class may name, above each of which stands one, and one above all.
func TestManyBeside(t *testing.T) { // P10.1, P10.2
	classes := list(m("Top", normal))
	var all, best, names []string
	all = append(all, "Top")
	for n := range api.MaxIfaces {
		upper, lower := fmt.Sprint("U", n), fmt.Sprint("L", n)
		classes = append(classes, of(m(upper, normal), "Top"), of(m(lower, abstract), upper))
		names = append(names, lower)
	}
	slices.Reverse(names)
	for _, lower := range names {
		all = append(all, "U"+lower[1:], lower)
		best = append(best, lower)
	}
	w := worldOf(t, append(classes, of(class("C", "Object"), names...))...)
	holds(t, w, "C", "m", answers{all: strings.Join(all, " "), max: strings.Join(best, " "), err: api.Abstract})
}

// TestALongRow: each interface extends the one ahead of it, and every third has no such method.
func TestALongRow(t *testing.T) { // P10.1, P10.2
	w := hier.New()
	above, want := "Cloneable", ""
	for n := range 200 {
		name := fmt.Sprint("I", n)
		next := of(m(name, normal), above)
		if n%3 == 2 {
			next.Methods = nil
		} else {
			want += " " + name
		}
		define(t, w, next)
		above = name
	}
	define(t, w, of(class("C", "Object"), above))
	holds(t, w, "C", "m", answers{all: want, max: "I199", one: "I199"})
}

func TestTextsThatAreNoNames(t *testing.T) { // P10.1, R1
	w := worldOf(t, m("I", normal), of(m("J", abstract), "I"), of(class("C", "Object"), "J"))
	for _, c := range [][2]string{
		{"", ""}, {"m", ""}, {"", "()V"}, {"", "m()V"}, {"m()V", ""}, {"m(", ")V"}, {"m()", "V"}, {"m\x00", "()V"}, {"m", "()V\x00"}, {"\x00m", "()V"},
		{"m ", "()V"}, {"m", " ()V"}, {"m", "() V"}, {"m\n", "()V"}, {"\xff\xfe", "\x80"}, {"<init>", "()V"}, {"<clinit>", "()V"}, {"()V", "m"}, {"I.m", "()V"},
		{"ｍ", "()V"}, {"m", "(V)V"}, {"m", "()"}, {strings.Repeat("m", 5000), "()V"}, {"m", strings.Repeat("()V", 5000)},
	} {
		for id := range w.Len() {
			if got, e := Candidates(w, id, c[0], c[1]); len(got) != 0 || e != api.OK {
				t.Errorf("Candidates(%d, %q, %q) = %v, %d", id, c[0], c[1], got, e)
			}
			if got, e := Max(w, id, c[0], c[1]); len(got) != 0 || e != api.OK {
				t.Errorf("Max(%d, %q, %q) = %v, %d", id, c[0], c[1], got, e)
			}
			if got, e := One(w, id, c[0], c[1]); got != (api.MethodID{}) || e != api.Abstract {
				t.Errorf("One(%d, %q, %q) = %v, %d", id, c[0], c[1], got, e)
			}
			if got, e := Some(w, id, c[0], c[1]); got != (api.MethodID{}) || e != api.ErrNone {
				t.Errorf("Some(%d, %q, %q) = %v, %d", id, c[0], c[1], got, e)
			}
		}
		refused(t, w, api.ErrRange, -1, c[0], c[1])
		refused(t, w, api.ErrRange, w.Len(), c[0], c[1])
		refused(t, nil, api.ErrArg, 0, c[0], c[1])
	}
}

func TestNumbersThatAreNone(t *testing.T) { // P10.1 to P10.4: ErrRange
	w := worldOf(t, m("I", normal), of(class("C", "Object"), "I"))
	for _, c := range append([]int{w.Len()}, oddNumbers...) {
		refused(t, w, api.ErrRange, c, "m", "()V")
		refused(t, w, api.ErrRange, c, "n", "()V")
	}
	hasNone(t, w, "Object", "m")
	holds(t, w, "C", "m", answers{all: "I", max: "I", one: "I"})
	refused(t, hier.New(), api.ErrRange, 3, "m", "()V")
	hasNone(t, hier.New(), "Serializable", "m")
}

func TestNilWorld(t *testing.T) { // R6
	for _, c := range append([]int{0, 1, 2, 3}, oddNumbers...) {
		refused(t, nil, api.ErrArg, c, "m", "()V")
		refused(t, nil, api.ErrArg, c, "", "")
	}
}

// TestWorldThatNewDidNotMake: it has no class, so no number is one.
func TestWorldThatNewDidNotMake(t *testing.T) { // P0.1
	for _, c := range append([]int{0, 1}, oddNumbers...) {
		refused(t, &hier.World{}, api.ErrRange, c, "m", "()V")
	}
}

func TestExamples(t *testing.T) { // the chapter's examples
	with := func(i, j, k []api.Method) *hier.World {
		return worldOf(t, iface("I", i...), of(iface("J", j...), "I"), of(iface("K", k...), "I"), of(class("C", "Object"), "K", "J"))
	}
	some := func(flags int) []api.Method { return []api.Method{method("m", flags)} }
	holds(t, with(some(normal), some(normal), nil), "C", "m", answers{all: "I J", max: "J", one: "J"})
	holds(t, with(nil, some(normal), some(normal)), "C", "m", answers{all: "K J", max: "K J", err: api.Incompatible})
	holds(t, with(nil, some(normal), some(abstract)), "C", "m", answers{all: "K J", max: "K J", one: "J"})
	w := with(some(abstract), some(shut), some(static))
	holds(t, w, "C", "m", answers{all: "I", max: "I", err: api.Abstract})
	holds(t, w, "J", "m", answers{all: "I", max: "I", err: api.Abstract})
	hasNone(t, w, "I", "m")
	hasNone(t, w, "Object", "m")
}
