package choose

import (
	"fmt"
	"math"
	"slices"
	"strings"
	"testing"

	"arbiter/api"
	"arbiter/hier"
)

// The flags of methods, as they are written most often.
const (
	normal   = api.Public
	abstract = api.Public | api.AbstractFl
	static   = api.Public | api.Static
)

// oddNumbers are numbers of no class of any world.
var oddNumbers = []int{-1, math.MinInt, math.MaxInt, -2, api.MaxClasses, api.MaxClasses + 1, 1 << 32, -1 << 32, 1<<32 + 1}

// oddKinds are no kinds of invocations.
var oddKinds = []int{0, 5, -1, 6, -4, math.MinInt, math.MaxInt, 1 << 32, 1<<32 + 1, -1<<32 + 4}

// allKinds are the four kinds, of which the first and the last are the edges.
var allKinds = []int{api.Virtual, api.Iface, api.Special, api.StaticInv}

// method has the descriptor ()V, unless its name brings one.
func method(name string, flags int) api.Method {
	m := api.Method{Name: name, Desc: "()V", Flags: flags}
	if at := strings.Index(name, "("); at >= 0 {
		m.Name, m.Desc = name[:at], name[at:]
	}
	if flags&api.AbstractFl == 0 {
		m.Locals, m.Code = 4, []api.Inst{{Op: api.Return}}
	}
	return m
}

func class(name, super string, methods ...api.Method) api.Class {
	return api.Class{Name: name, Super: super, Flags: api.Public | api.Super | api.AbstractFl, Methods: methods}
}

func iface(name string, methods ...api.Method) api.Class {
	return api.Class{Name: name, Super: "Object", Flags: api.Public | api.Interface | api.AbstractFl, Methods: methods}
}

// cm and im make a class and an interface with a method m.
func cm(name, super string, flags int) api.Class {
	return class(name, super, method("m", flags))
}

func im(name string, flags int) api.Class {
	return iface(name, method("m", flags))
}

// of names interfaces, shut takes Public away, old takes Super away, by takes another Loader.
func of(c api.Class, ifaces ...string) api.Class {
	c.Ifaces = ifaces
	return c
}

func shut(c api.Class) api.Class {
	c.Flags &^= api.Public
	return c
}

func old(c api.Class) api.Class {
	c.Flags &^= api.Super
	return c
}

func by(loader int, c api.Class) api.Class {
	c.Loader = loader
	return c
}

func list(classes ...api.Class) []api.Class {
	return classes
}

// show cuts what it shows, since texts may be long.
func show(things ...any) string {
	text := fmt.Sprintf("%#v", things)
	return text[:min(len(text), 300)]
}

func define(t *testing.T, w *hier.World, c api.Class) int {
	t.Helper()
	id, e := w.Define(c)
	if e != api.OK {
		t.Fatalf("Define(%s): %d", show(c), e)
	}
	return id
}

func worldOf(t *testing.T, classes ...api.Class) *hier.World {
	t.Helper()
	w := hier.New()
	for _, c := range classes {
		define(t, w, c)
	}
	return w
}

func number(t *testing.T, w *hier.World, name string) int {
	t.Helper()
	id, e := w.ByName(name)
	if e != api.OK {
		t.Fatalf("ByName(%s): %d", show(name), e)
	}
	return id
}

// ref cuts a reference's text, sound or not: p/A.m()V or p/I:m()V.
func ref(text string) api.Ref {
	at := strings.IndexAny(text, ".:")
	name, desc := text[at+1:], ""
	if end := strings.Index(name, "("); end >= 0 {
		name, desc = name[:end], name[end:]
	}
	return api.Ref{Iface: text[at] == ':', Class: text[:at], Name: name, Desc: desc}
}

// find finds the method that a text such as p/A.m()V says; the zero method, if it is empty.
func find(t *testing.T, w *hier.World, text string) api.MethodID {
	t.Helper()
	if text == "" {
		return api.MethodID{}
	}
	r := ref(text)
	id := number(t, w, r.Class)
	c, _ := w.Class(id)
	at := slices.IndexFunc(c.Methods, func(m api.Method) bool { return m.Name == r.Name && m.Desc == r.Desc })
	if at < 0 {
		t.Fatalf("no method %s", text)
	}
	return api.MethodID{Class: id, Index: at}
}

// typed cuts the text of a receiver: int, a class's name, or an array with its brackets ahead of int or a name.
func typed(text string) api.Type {
	name := strings.TrimLeft(text, "[")
	dims := len(text) - len(name)
	if name == "int" {
		name = ""
	}
	return api.Type{Dims: dims, Name: name}
}

func virtualIs(t *testing.T, w *hier.World, r int, m, want api.MethodID, err api.Errno) {
	t.Helper()
	if got, e := Virtual(w, r, m); got != want || e != err {
		t.Errorf("Virtual(%d, %v) = %v, %d, want %v, %d", r, m, got, e, want, err)
	}
}

func interfaceIs(t *testing.T, w *hier.World, r int, m, want api.MethodID, err api.Errno) {
	t.Helper()
	if got, e := Interface(w, r, m); got != want || e != err {
		t.Errorf("Interface(%d, %v) = %v, %d, want %v, %d", r, m, got, e, want, err)
	}
}

func specialIs(t *testing.T, w *hier.World, d int, r api.Ref, m, want api.MethodID, err api.Errno) {
	t.Helper()
	if got, e := Special(w, d, r, m); got != want || e != err {
		t.Errorf("Special(%d, %s, %v) = %v, %d, want %v, %d", d, show(r), m, got, e, want, err)
	}
}

func callIs(t *testing.T, w *hier.World, d, kind int, r api.Ref, recv api.Type, want api.MethodID, err api.Errno) {
	t.Helper()
	if got, e := Call(w, d, kind, r, recv); got != want || e != err {
		t.Errorf("Call(%d, %d, %s) = %v, %d, want %v, %d", d, kind, show(r, recv), got, e, want, err)
	}
}

// special and call ask from the class of a name, all by texts.
func special(t *testing.T, w *hier.World, from, text, m, want string, err api.Errno) {
	t.Helper()
	if got, e := Special(w, number(t, w, from), ref(text), find(t, w, m)); got != find(t, w, want) || e != err {
		t.Errorf("Special of %s, %s from %s = %v, %d, want %s, %d", text, m, from, got, e, want, err)
	}
}

func call(t *testing.T, w *hier.World, from string, kind int, text, recv, want string, err api.Errno) {
	t.Helper()
	if got, e := Call(w, number(t, w, from), kind, ref(text), typed(recv)); got != find(t, w, want) || e != err {
		t.Errorf("Call %d of %s from %s = %v, %d, want %s, %d", kind, show(text, recv), from, got, e, want, err)
	}
}

// selectCase says by texts what is selected for a receiver of the class R, if none other is named.
type selectCase struct {
	what    string
	classes []api.Class
	r, m    string
	want    string
	err     api.Errno
}

func (c selectCase) ask(t *testing.T, is func(t *testing.T, w *hier.World, r int, m, want api.MethodID, err api.Errno)) {
	t.Run(c.what, func(t *testing.T) {
		w := worldOf(t, c.classes...)
		if c.r == "" {
			c.r = "R"
		}
		is(t, w, number(t, w, c.r), find(t, w, c.m), find(t, w, c.want), c.err)
	})
}

func TestVirtualInTheChain(t *testing.T) { // P12.1: First
	for _, c := range []selectCase{
		{what: "the receiver's own is what is asked for", classes: list(cm("R", "Object", normal)), m: "R.m()V", want: "R.m()V"},
		{what: "the receiver's own overrides", classes: list(cm("A", "Object", normal), cm("R", "A", normal)), m: "A.m()V", want: "R.m()V"},
		{what: "the receiver's own ahead of those above", classes: list(cm("A", "Object", normal), cm("B", "A", normal), cm("R", "B", normal)), m: "A.m()V", want: "R.m()V"},
		{what: "the second of its own", classes: list(cm("A", "Object", normal), class("R", "A", method("n", normal), method("m(I)V", normal), method("m", normal))), m: "A.m()V", want: "R.m()V"},
		{what: "further up, what is asked for", classes: list(cm("A", "Object", normal), class("B", "A"), class("R", "B")), m: "A.m()V", want: "A.m()V"},
		{what: "further up, one that overrides", classes: list(cm("A", "Object", normal), cm("B", "A", normal), class("D", "B"), class("R", "D")), m: "A.m()V", want: "B.m()V"},
		{what: "of another descriptor", classes: list(cm("A", "Object", normal), class("R", "A", method("m(I)V", normal), method("m()I", normal))), m: "A.m()V", want: "A.m()V"},
		{what: "not below the receiver", classes: list(cm("R", "Object", normal), cm("B", "R", normal)), m: "R.m()V", want: "R.m()V"},
		{what: "protected, across packages", classes: list(cm("p/A", "Object", api.Protected), cm("R", "p/A", api.Protected)), m: "p/A.m()V", want: "R.m()V"},
		{what: "without a word, in the package", classes: list(cm("p/A", "Object", 0), cm("p/R", "p/A", 0)), r: "p/R", m: "p/A.m()V", want: "p/R.m()V"},
		{what: "without a word, across packages", classes: list(cm("p/A", "Object", 0), cm("R", "p/A", normal)), m: "p/A.m()V", want: "p/A.m()V"},
		{what: "without a word, across loaders", classes: list(cm("p/A", "Object", 0), by(1, cm("p/R", "p/A", normal))), r: "p/R", m: "p/A.m()V", want: "p/A.m()V"},
		{what: "without a word, one of another package between", classes: list(cm("p/A", "Object", 0), cm("q/B", "p/A", normal), class("R", "q/B")), m: "p/A.m()V", want: "p/A.m()V"},
		{what: "without a word, back in the package", classes: list(cm("p/A", "Object", 0), cm("q/B", "p/A", normal), cm("p/R", "q/B", normal)), r: "p/R", m: "p/A.m()V", want: "p/R.m()V"},
		{what: "without a word, by way of another", classes: list(cm("p/A", "Object", 0), cm("p/B", "p/A", normal), cm("R", "p/B", normal)), m: "p/A.m()V", want: "R.m()V"},
		{what: "private, asked for", classes: list(cm("A", "Object", api.Private), cm("R", "A", normal)), m: "A.m()V", want: "A.m()V"},
		{what: "private, asked for, the receiver's own", classes: list(cm("A", "Object", normal), cm("R", "A", api.Private)), m: "R.m()V", want: "R.m()V"},
		{what: "private, in the receiver", classes: list(cm("A", "Object", normal), cm("R", "A", api.Private)), m: "A.m()V", want: "A.m()V"},
		{what: "private, between", classes: list(cm("A", "Object", normal), cm("B", "A", normal), cm("D", "B", api.Private), class("R", "D")), m: "A.m()V", want: "B.m()V"},
		{what: "static, in the receiver", classes: list(cm("A", "Object", normal), cm("R", "A", static)), m: "A.m()V", want: "A.m()V"},
		{what: "static, asked for", classes: list(cm("R", "Object", static)), m: "R.m()V", err: api.Incompatible},
		{what: "static, asked for, with one below that is not", classes: list(cm("A", "Object", static), cm("R", "A", normal)), m: "A.m()V", err: api.Incompatible},
		{what: "static and private, asked for", classes: list(cm("R", "Object", api.Private|api.Static)), m: "R.m()V", err: api.Incompatible},
		{what: "static, of an interface", classes: list(im("I", static), of(cm("R", "Object", normal), "I")), m: "I.m()V", err: api.Incompatible},
		{what: "static, of a class beside", classes: list(cm("A", "Object", static), class("R", "Object")), m: "A.m()V", err: api.Incompatible},
		{what: "abstract, the receiver's own", classes: list(cm("A", "Object", normal), cm("R", "A", abstract)), m: "A.m()V", err: api.Abstract},
		{what: "abstract, what is asked for", classes: list(cm("A", "Object", abstract), class("R", "A")), m: "A.m()V", err: api.Abstract},
		{what: "abstract, between", classes: list(cm("A", "Object", normal), cm("B", "A", abstract), class("R", "B")), m: "A.m()V", err: api.Abstract},
		{what: "abstract and protected", classes: list(cm("A", "Object", api.Protected|api.AbstractFl), class("R", "A")), m: "A.m()V", err: api.Abstract},
		{what: "abstract, overridden", classes: list(cm("A", "Object", abstract), cm("R", "A", normal)), m: "A.m()V", want: "R.m()V"},
		{what: "abstract, ahead of an interface's", classes: list(cm("A", "Object", abstract), im("I", normal), of(class("R", "A"), "I")), m: "A.m()V", err: api.Abstract},
		{what: "the chain's ahead of an interface's", classes: list(cm("A", "Object", normal), im("I", normal), of(class("R", "A"), "I")), m: "A.m()V", want: "A.m()V"},
		{what: "Object's", classes: list(class("R", "Object")), m: "Object.id()I", want: "Object.id()I"},
		{what: "Object's, overridden", classes: list(class("p/A", "Object", method("kin()LObject;", normal)), class("R", "p/A")), m: "Object.kin()LObject;", want: "p/A.kin()LObject;"},
		{what: "Object's <init>, which none overrides", classes: list(class("R", "Object", method("<init>", normal))), m: "Object.<init>()V", want: "Object.<init>()V"},
		{what: "Object itself", r: "Object", m: "Object.kin()LObject;", want: "Object.kin()LObject;"},
	} {
		c.ask(t, virtualIs)
	}
}

func TestVirtualInTheInterfaces(t *testing.T) { // P12.1: One, where the chain has none
	for _, c := range []selectCase{
		{what: "an interface's, overridden", classes: list(im("I", normal), of(cm("R", "Object", normal), "I")), m: "I.m()V", want: "R.m()V"},
		{what: "an interface's, overridden further up", classes: list(im("I", abstract), of(cm("A", "Object", normal), "I"), class("R", "A")), m: "I.m()V", want: "A.m()V"},
		{what: "an interface's, overridden by an abstract one", classes: list(im("I", normal), of(cm("R", "Object", abstract), "I")), m: "I.m()V", err: api.Abstract},
		{what: "one", classes: list(im("I", normal), of(class("R", "Object"), "I")), m: "I.m()V", want: "I.m()V"},
		{what: "one, of the superclass's interface", classes: list(im("I", normal), of(class("A", "Object"), "I"), class("R", "A")), m: "I.m()V", want: "I.m()V"},
		{what: "one, the most special", classes: list(im("I", normal), of(im("J", normal), "I"), of(class("R", "Object"), "I", "J")), m: "I.m()V", want: "J.m()V"},
		{what: "one beside an abstract one", classes: list(im("I", abstract), im("J", normal), of(class("R", "Object"), "I", "J")), m: "I.m()V", want: "J.m()V"},
		{what: "several", classes: list(im("I", normal), im("J", normal), of(class("R", "Object"), "I", "J")), m: "I.m()V", err: api.Incompatible},
		{what: "only an abstract one", classes: list(im("I", abstract), of(class("R", "Object"), "I")), m: "I.m()V", err: api.Abstract},
		{what: "only abstract ones", classes: list(im("I", abstract), im("J", abstract), of(class("R", "Object"), "I", "J")), m: "J.m()V", err: api.Abstract},
		{what: "one that an abstract one stands in for", classes: list(im("I", normal), of(im("J", abstract), "I"), of(class("R", "Object"), "J")), m: "I.m()V", err: api.Abstract},
		{what: "none", classes: list(im("I", normal), class("R", "Object")), m: "I.m()V", err: api.Abstract},
		{what: "none, of a class beside", classes: list(cm("A", "Object", normal), class("R", "Object")), m: "A.m()V", err: api.Abstract},
		{what: "none, of a class below", classes: list(class("R", "Object"), cm("B", "R", normal)), m: "B.m()V", err: api.Abstract},
		{what: "one, of a class beside", classes: list(cm("A", "Object", normal), im("I", normal), of(class("R", "Object"), "I")), m: "A.m()V", want: "I.m()V"},
		{what: "one, of a private one beside", classes: list(cm("A", "Object", api.Private), im("I", normal), of(class("R", "Object"), "I")), m: "A.m()V", want: "I.m()V"},
		{what: "one, though the superclass has one that does not override", classes: list(im("I", normal), cm("S", "Object", normal), of(class("R", "S"), "I")), m: "I.m()V", want: "I.m()V"},
		{what: "an abstract one, though the superclass has one that does not override", classes: list(im("I", abstract), cm("S", "Object", normal), of(class("R", "S"), "I")), m: "I.m()V", err: api.Abstract},
		{what: "an interface's private one", classes: list(im("I", api.Private), of(cm("R", "Object", normal), "I")), m: "I.m()V", err: api.Abstract},
		{what: "an interface's private one beside another", classes: list(im("I", api.Private), im("J", normal), of(cm("R", "Object", normal), "I", "J")), m: "I.m()V", want: "J.m()V"},
		{what: "of another descriptor", classes: list(im("I", abstract), iface("J", method("m(I)V", normal)), of(class("R", "Object"), "I", "J")), m: "I.m()V", err: api.Abstract},
		{what: "an interface as receiver", classes: list(im("R", normal)), m: "R.m()V", err: api.ErrArg},
		{what: "an interface as receiver of Object's", r: "Cloneable", m: "Object.id()I", err: api.ErrArg},
	} {
		c.ask(t, virtualIs)
	}
}

func TestInterfaceInTheChain(t *testing.T) { // P12.2: the chain
	i := im("I", abstract)
	for _, c := range []selectCase{
		{what: "the receiver's own", classes: list(i, of(cm("R", "Object", normal), "I")), want: "R.m()V"},
		{what: "of the superclass", classes: list(i, of(cm("A", "Object", normal), "I"), class("R", "A")), want: "A.m()V"},
		{what: "of a superclass that does not name the interface", classes: list(i, cm("A", "Object", normal), of(class("R", "A"), "I")), want: "A.m()V"},
		{what: "the nearest", classes: list(i, cm("A", "Object", normal), cm("B", "A", normal), class("D", "B"), of(class("R", "D"), "I")), want: "B.m()V"},
		{what: "of a receiver that is not below", classes: list(i, cm("R", "Object", normal)), want: "R.m()V"},
		{what: "the second of its own", classes: list(i, of(class("R", "Object", method("m(I)V", api.Private), method("n", 0), method("m", normal)), "I")), want: "R.m()V"},
		{what: "ahead of an interface's", classes: list(i, im("J", normal), cm("A", "Object", normal), of(class("R", "A"), "I", "J")), want: "A.m()V"},
		{what: "protected", classes: list(i, of(cm("R", "Object", api.Protected), "I")), err: api.IllegalAccess},
		{what: "without a word", classes: list(i, of(cm("R", "Object", 0), "I")), err: api.IllegalAccess},
		{what: "private", classes: list(i, of(cm("R", "Object", api.Private), "I")), err: api.IllegalAccess},
		{what: "protected, further up", classes: list(i, cm("A", "Object", api.Protected), of(class("R", "A"), "I")), err: api.IllegalAccess},
		{what: "private, ahead of a public one", classes: list(i, cm("A", "Object", normal), of(cm("R", "A", api.Private), "I")), err: api.IllegalAccess},
		{what: "protected, ahead of a public one", classes: list(i, cm("A", "Object", normal), cm("B", "A", api.Protected), of(class("R", "B"), "I")), err: api.IllegalAccess},
		{what: "private, ahead of an interface's", classes: list(i, im("J", normal), of(cm("R", "Object", api.Private), "I", "J")), err: api.IllegalAccess},
		{what: "public, ahead of a private one", classes: list(i, cm("A", "Object", api.Private), of(cm("R", "A", normal), "I")), want: "R.m()V"},
		{what: "static, ahead of a public one", classes: list(i, cm("A", "Object", normal), of(cm("R", "A", static), "I")), want: "A.m()V"},
		{what: "static and private, ahead of a public one", classes: list(i, cm("A", "Object", normal), of(cm("R", "A", api.Private|api.Static), "I")), want: "A.m()V"},
		{what: "static, ahead of a private one", classes: list(i, cm("A", "Object", api.Private), of(cm("R", "A", static), "I")), err: api.IllegalAccess},
		{what: "static, ahead of an interface's", classes: list(i, im("J", normal), of(cm("R", "Object", static), "I", "J")), want: "J.m()V"},
		{what: "static ones alone", classes: list(i, cm("A", "Object", static), of(cm("R", "A", static), "I")), err: api.Abstract},
		{what: "abstract", classes: list(i, of(cm("R", "Object", abstract), "I")), err: api.Abstract},
		{what: "abstract, ahead of one that is not", classes: list(i, cm("A", "Object", normal), of(cm("R", "A", abstract), "I")), err: api.Abstract},
		{what: "abstract, ahead of an interface's", classes: list(i, im("J", normal), of(cm("R", "Object", abstract), "I", "J")), err: api.Abstract},
		{what: "abstract and protected", classes: list(i, of(cm("R", "Object", api.Protected|api.AbstractFl), "I")), err: api.IllegalAccess},
		{what: "a class's asked for", classes: list(cm("A", "Object", normal), cm("R", "A", normal)), m: "A.m()V", want: "R.m()V"},
		{what: "a class's asked for, without a word", classes: list(cm("A", "Object", 0), class("R", "A")), m: "A.m()V", err: api.IllegalAccess},
		{what: "a class's asked for, without a word, with a public one below", classes: list(cm("p/A", "Object", 0), cm("R", "p/A", normal)), m: "p/A.m()V", want: "R.m()V"},
		{what: "Object's", classes: list(class("R", "Object")), m: "Object.id()I", want: "Object.id()I"},
		{what: "Object's, overridden", classes: list(class("A", "Object", method("id()I", normal)), class("R", "A")), m: "Object.id()I", want: "A.id()I"},
		{what: "Object's protected one", classes: list(class("R", "Object")), m: "Object.kin()LObject;", err: api.IllegalAccess},
		{what: "Object's protected one, public below", classes: list(class("R", "Object", method("kin()LObject;", normal))), m: "Object.kin()LObject;", want: "R.kin()LObject;"},
		{what: "<init>, by its name", classes: list(class("R", "Object", method("<init>", normal))), m: "Object.<init>()V", want: "R.<init>()V"},
		{what: "<init>, private", classes: list(class("R", "Object", method("<init>", api.Private))), m: "Object.<init>()V", err: api.IllegalAccess},
	} {
		if c.m == "" {
			c.m = "I.m()V"
		}
		c.ask(t, interfaceIs)
	}
}

func TestInterfaceInTheInterfaces(t *testing.T) { // P12.2: One, and what is refused
	for _, c := range []selectCase{
		{what: "one", classes: list(im("I", normal), of(class("R", "Object"), "I")), want: "I.m()V"},
		{what: "one, of the superclass's interface", classes: list(im("I", normal), of(class("A", "Object"), "I"), class("R", "A")), want: "I.m()V"},
		{what: "one, the most special", classes: list(im("I", normal), of(im("J", normal), "I"), of(class("R", "Object"), "J")), want: "J.m()V"},
		{what: "one beside an abstract one", classes: list(im("I", abstract), im("J", normal), of(class("R", "Object"), "I", "J")), want: "J.m()V"},
		{what: "several", classes: list(im("I", normal), im("J", normal), of(class("R", "Object"), "I", "J")), err: api.Incompatible},
		{what: "only abstract ones", classes: list(im("I", abstract), im("J", abstract), of(class("R", "Object"), "I", "J")), err: api.Abstract},
		{what: "none", classes: list(im("I", normal), class("R", "Object")), err: api.Abstract},
		{what: "of another descriptor", classes: list(im("I", abstract), iface("J", method("m(I)V", normal)), of(class("R", "Object", method("m(I)V", normal)), "I", "J")), err: api.Abstract},
		{what: "static, asked for", classes: list(im("I", static), of(cm("R", "Object", normal), "I")), err: api.Incompatible},
		{what: "private, asked for", classes: list(im("I", api.Private), of(cm("R", "Object", normal), "I")), err: api.Incompatible},
		{what: "private and static, asked for", classes: list(im("I", api.Private|api.Static), of(cm("R", "Object", normal), "I")), err: api.Incompatible},
		{what: "a class's static one, asked for", classes: list(cm("A", "Object", static), cm("R", "A", normal)), m: "A.m()V", err: api.Incompatible},
		{what: "a class's private one, asked for", classes: list(cm("A", "Object", api.Private), cm("R", "A", normal)), m: "A.m()V", err: api.Incompatible},
		{what: "the receiver's private one, asked for", classes: list(cm("R", "Object", api.Private)), m: "R.m()V", err: api.Incompatible},
		{what: "an interface as receiver", classes: list(im("R", normal)), m: "R.m()V", err: api.ErrArg},
		{what: "an interface as receiver of Object's", r: "Serializable", m: "Object.id()I", err: api.ErrArg},
	} {
		if c.m == "" {
			c.m = "I.m()V"
		}
		c.ask(t, interfaceIs)
	}
}

// specialCase says by texts what invokespecial from the class D selects of a reference and the method to which it was resolved.
type specialCase struct {
	what    string
	classes []api.Class
	text, m string
	want    string
	err     api.Errno
}

func (c specialCase) ask(t *testing.T) {
	t.Run(c.what, func(t *testing.T) {
		special(t, worldOf(t, c.classes...), "D", c.text, c.m, c.want, c.err)
	})
}

func TestSpecialOfClasses(t *testing.T) { // P12.3: where it begins, and the chain from there
	a, b, both := cm("A", "Object", normal), cm("B", "A", normal), []api.Method{method("m", normal), method("id()I", normal)}
	for _, c := range []specialCase{
		{what: "a class above, with Super", classes: list(a, b, cm("D", "B", normal)), text: "A.m()V", m: "A.m()V", want: "B.m()V"},
		{what: "a class above, without Super", classes: list(a, b, old(cm("D", "B", normal))), text: "A.m()V", m: "A.m()V", want: "A.m()V"},
		{what: "a class above, its Super counts for nothing", classes: list(old(a), old(b), cm("D", "B", normal)), text: "A.m()V", m: "A.m()V", want: "B.m()V"},
		{what: "a class above, not this one's Super, with Super", classes: list(a, b, class("C", "B"), class("D", "C")), text: "A.m()V", m: "A.m()V", want: "B.m()V"},
		{what: "the superclass, with Super", classes: list(a, b, cm("D", "B", normal)), text: "B.m()V", m: "B.m()V", want: "B.m()V"},
		{what: "the superclass, without Super", classes: list(a, b, old(cm("D", "B", normal))), text: "B.m()V", m: "B.m()V", want: "B.m()V"},
		{what: "the superclass, which has none", classes: list(a, class("B", "A"), cm("D", "B", normal)), text: "B.m()V", m: "A.m()V", want: "A.m()V"},
		{what: "itself, with Super", classes: list(a, b, cm("D", "B", normal)), text: "D.m()V", m: "D.m()V", want: "D.m()V"},
		{what: "itself, without Super", classes: list(a, b, old(cm("D", "B", normal))), text: "D.m()V", m: "D.m()V", want: "D.m()V"},
		{what: "itself, without one of its own", classes: list(a, b, class("D", "B")), text: "D.m()V", m: "B.m()V", want: "B.m()V"},
		{what: "Object, with Super", classes: list(class("A", "Object", both...), class("D", "A", both...)), text: "Object.id()I", m: "Object.id()I", want: "A.id()I"},
		{what: "Object, without Super", classes: list(class("A", "Object", both...), old(class("D", "A", both...))), text: "Object.id()I", m: "Object.id()I", want: "Object.id()I"},
		{what: "a class beside, with Super", classes: list(a, b, cm("D", "A", normal)), text: "B.m()V", m: "B.m()V", want: "B.m()V"},
		{what: "a class below, with Super", classes: list(cm("D", "Object", normal), cm("C", "D", normal)), text: "C.m()V", m: "C.m()V", want: "C.m()V"},
		{what: "a class of another package", classes: list(cm("p/A", "Object", 0), cm("q/B", "p/A", 0), cm("D", "q/B", normal)), text: "p/A.m()V", m: "p/A.m()V", want: "q/B.m()V"},
		{what: "private", classes: list(cm("D", "Object", api.Private)), text: "D.m()V", m: "D.m()V", want: "D.m()V"},
		{what: "private, further up", classes: list(a, cm("B", "A", api.Private), class("D", "B")), text: "A.m()V", m: "A.m()V", want: "B.m()V"},
		{what: "private, in a class above", classes: list(cm("A", "Object", api.Private), class("B", "A"), class("D", "B")), text: "A.m()V", m: "A.m()V", want: "A.m()V"},
		{what: "static, passed over", classes: list(a, cm("B", "A", static), cm("D", "B", normal)), text: "A.m()V", m: "A.m()V", want: "A.m()V"},
		{what: "static, asked for", classes: list(cm("A", "Object", static), cm("D", "A", normal)), text: "A.m()V", m: "A.m()V", err: api.Incompatible},
		{what: "abstract", classes: list(a, cm("B", "A", abstract), cm("D", "B", normal)), text: "A.m()V", m: "A.m()V", err: api.Abstract},
		{what: "abstract, what is asked for", classes: list(cm("A", "Object", abstract), old(cm("D", "A", normal))), text: "A.m()V", m: "A.m()V", err: api.Abstract},
		{what: "abstract, behind one that is not", classes: list(cm("A", "Object", abstract), b, class("D", "B")), text: "A.m()V", m: "A.m()V", want: "B.m()V"},
		{what: "abstract, ahead of an interface's", classes: list(im("I", normal), of(cm("A", "Object", abstract), "I"), class("D", "A")), text: "A.m()V", m: "A.m()V", err: api.Abstract},
		{what: "the chain's ahead of an interface's", classes: list(a, im("I", normal), of(class("B", "A"), "I"), class("D", "B")), text: "A.m()V", m: "A.m()V", want: "A.m()V"},
		{what: "by an interface's reference", classes: list(a, b, cm("D", "B", normal)), text: "A:m()V", m: "A.m()V", want: "A.m()V"},
		{what: "of another descriptor", classes: list(a, class("B", "A", method("m(I)V", normal)), class("D", "B")), text: "A.m()V", m: "A.m()V", want: "A.m()V"},
		{what: "the method's name counts, not the reference's", classes: list(class("A", "Object", both...), class("D", "A")), text: "A.m()V", m: "Object.id()I", want: "A.id()I"},
		{what: "the method's descriptor counts, not the reference's", classes: list(class("A", "Object", method("m(I)V", normal), method("m", normal)), class("D", "A")), text: "A.m(I)V", m: "A.m()V", want: "A.m()V"},
	} {
		c.ask(t)
	}
}

func TestSpecialOfOneInTheInterfaces(t *testing.T) { // P12.3: One of the class where it begins
	i, j, k := im("I", normal), of(im("J", normal), "I"), im("K", normal)
	a := of(class("A", "Object"), "I")
	for _, c := range []specialCase{
		{what: "one of the superclass", classes: list(i, j, a, of(class("B", "A"), "J"), class("D", "B")), text: "A.m()V", m: "I.m()V", want: "J.m()V"},
		{what: "one of the class named", classes: list(i, j, a, of(class("B", "A"), "J"), old(class("D", "B"))), text: "A.m()V", m: "I.m()V", want: "I.m()V"},
		{what: "none of its own interfaces", classes: list(i, j, a, of(class("D", "A"), "J")), text: "A.m()V", m: "I.m()V", want: "I.m()V"},
		{what: "one, behind a static one of the chain", classes: list(i, of(cm("A", "Object", static), "I"), class("D", "A")), text: "A.m()V", m: "I.m()V", want: "I.m()V"},
		{what: "several", classes: list(i, k, a, of(class("B", "A"), "K"), class("D", "B")), text: "A.m()V", m: "I.m()V", err: api.Incompatible},
		{what: "abstract ones alone", classes: list(i, of(im("J", abstract), "I"), a, of(class("B", "A"), "J"), class("D", "B")), text: "A.m()V", m: "I.m()V", err: api.Abstract},
		{what: "none", classes: list(i, class("A", "Object"), of(class("D", "A"), "I")), text: "A.m()V", m: "I.m()V", err: api.Abstract},
		{what: "one by the method's name, not the reference's", classes: list(i, a, class("D", "A")), text: "A.n()V", m: "I.m()V", want: "I.m()V"},
		{what: "none, since it stands below", classes: list(class("A", "Object"), cm("D", "A", normal)), text: "A.m()V", m: "D.m()V", err: api.Abstract},
	} {
		c.ask(t)
	}
}

func TestSpecialOfInterfaces(t *testing.T) { // P12.3: an interface named
	i := im("I", normal)
	b := of(cm("B", "Object", normal), "I")
	for _, c := range []specialCase{
		{what: "its own", classes: list(i, b, class("D", "B")), text: "I:m()V", m: "I.m()V", want: "I.m()V"},
		{what: "its own, of a class that names it", classes: list(i, of(cm("D", "Object", normal), "I")), text: "I:m()V", m: "I.m()V", want: "I.m()V"},
		{what: "by a class's reference", classes: list(i, b, class("D", "B")), text: "I.m()V", m: "I.m()V", want: "I.m()V"},
		{what: "its own, private", classes: list(im("D", api.Private)), text: "D:m()V", m: "D.m()V", want: "D.m()V"},
		{what: "its own, abstract", classes: list(im("I", abstract), of(class("D", "Object"), "I")), text: "I:m()V", m: "I.m()V", err: api.Abstract},
		{what: "its own, abstract, ahead of one above", classes: list(i, of(im("J", abstract), "I"), of(class("D", "Object"), "J")), text: "J:m()V", m: "J.m()V", err: api.Abstract},
		{what: "its own, private, ahead of one above", classes: list(i, of(im("D", api.Private), "I")), text: "D:m()V", m: "D.m()V", want: "D.m()V"},
		{what: "its own, static, passed over", classes: list(i, of(im("J", static), "I"), of(class("D", "Object"), "J")), text: "J:m()V", m: "I.m()V", want: "I.m()V"},
		{what: "static, asked for", classes: list(im("I", static), of(class("D", "Object"), "I")), text: "I:m()V", m: "I.m()V", err: api.Incompatible},
		{what: "Object's", classes: list(i, of(class("D", "Object", method("id()I", normal)), "I")), text: "I:id()I", m: "Object.id()I", want: "Object.id()I"},
		{what: "Object's, with one of a class between", classes: list(i, of(class("B", "Object", method("id()I", normal)), "I"), class("D", "B")), text: "I:id()I", m: "Object.id()I", want: "Object.id()I"},
		{what: "its own ahead of Object's", classes: list(iface("I", method("id()I", normal)), of(class("D", "Object"), "I")), text: "I:id()I", m: "Object.id()I", want: "I.id()I"},
		{what: "its own, abstract, ahead of Object's", classes: list(iface("I", method("id()I", abstract)), of(class("D", "Object"), "I")), text: "I:id()I", m: "Object.id()I", err: api.Abstract},
		{what: "its own, static, behind Object's", classes: list(iface("I", method("id()I", static)), of(class("D", "Object"), "I")), text: "I:id()I", m: "Object.id()I", want: "Object.id()I"},
		{what: "Object's ahead of one above", classes: list(iface("I", method("id()I", normal)), of(iface("J"), "I"), of(class("D", "Object"), "J")), text: "J:id()I", m: "I.id()I", want: "Object.id()I"},
		{what: "Object's, which is not public", classes: list(i, of(class("D", "Object"), "I")), text: "I:kin()LObject;", m: "Object.kin()LObject;", err: api.Abstract},
		{what: "one above, since Object's is not public", classes: list(iface("I", method("kin()LObject;", normal)), of(iface("J"), "I"), of(class("D", "Object"), "J")), text: "J:kin()LObject;", m: "Object.kin()LObject;", want: "I.kin()LObject;"},
		{what: "one above", classes: list(i, of(iface("J"), "I"), of(cm("D", "Object", normal), "J")), text: "J:m()V", m: "I.m()V", want: "I.m()V"},
		{what: "several above", classes: list(i, im("K", normal), of(iface("J"), "I", "K"), of(cm("D", "Object", normal), "J")), text: "J:m()V", m: "I.m()V", err: api.Incompatible},
		{what: "abstract ones above alone", classes: list(im("I", abstract), of(iface("J"), "I"), of(cm("D", "Object", normal), "J")), text: "J:m()V", m: "I.m()V", err: api.Abstract},
		{what: "an interface below counts for nothing", classes: list(i, of(im("J", normal), "I"), of(class("D", "Object"), "J")), text: "I:m()V", m: "I.m()V", want: "I.m()V"},
		{what: "from an interface, Object's", classes: list(iface("D", method("id()I", normal))), text: "Object.id()I", m: "Object.id()I", want: "Object.id()I"},
		{what: "from an interface, one above", classes: list(i, of(im("D", normal), "I")), text: "I:m()V", m: "I.m()V", want: "I.m()V"},
	} {
		c.ask(t)
	}
}

func TestSpecialOfArraysAndInit(t *testing.T) { // P12.3: array types, <init>
	start := method("<init>", normal)
	a, b, d := class("A", "Object", start), class("B", "A"), class("D", "B", start)
	id := method("id()I", normal)
	for _, c := range []specialCase{
		{what: "an array over int", classes: list(class("A", "Object", id), class("D", "A", id)), text: "[I.id()I", m: "Object.id()I", want: "Object.id()I"},
		{what: "an array over a class above", classes: list(class("A", "Object", id), class("D", "A", id)), text: "[LA;.id()I", m: "A.id()I", want: "Object.id()I"},
		{what: "an array over itself", classes: list(class("A", "Object", id), class("D", "A", id)), text: "[[LD;.id()I", m: "Object.id()I", want: "Object.id()I"},
		{what: "an array over an interface", classes: list(iface("I", id), of(class("D", "Object", id), "I")), text: "[LI;.id()I", m: "I.id()I", want: "Object.id()I"},
		{what: "an array by an interface's reference", classes: list(class("A", "Object", id), class("D", "A", id)), text: "[I:id()I", m: "Object.id()I", want: "Object.id()I"},
		{what: "an array, Object's protected one", classes: list(class("D", "Object")), text: "[I.kin()LObject;", m: "Object.kin()LObject;", want: "Object.kin()LObject;"},
		{what: "an array, which has none", classes: list(cm("D", "Object", normal)), text: "[LD;.m()V", m: "D.m()V", err: api.Abstract},
		{what: "<init> of the class named", classes: list(a, b, d), text: "A.<init>()V", m: "A.<init>()V", want: "A.<init>()V"},
		{what: "<init> of the superclass", classes: list(a, class("B", "A", start), d), text: "B.<init>()V", m: "B.<init>()V", want: "B.<init>()V"},
		{what: "<init> of a class above, with one between", classes: list(a, class("B", "A", start), d), text: "A.<init>()V", m: "A.<init>()V", want: "A.<init>()V"},
		{what: "<init> of itself", classes: list(a, b, d), text: "D.<init>()V", m: "D.<init>()V", want: "D.<init>()V"},
		{what: "<init> of Object", classes: list(a, b, d), text: "Object.<init>()V", m: "Object.<init>()V", want: "Object.<init>()V"},
		{what: "<init> of a class beside", classes: list(a, class("C", "Object", start), class("D", "A")), text: "C.<init>()V", m: "C.<init>()V", want: "C.<init>()V"},
		{what: "<init>, private, with arguments", classes: list(class("D", "Object", start, method("<init>(I)V", api.Private))), text: "D.<init>(I)V", m: "D.<init>(I)V", want: "D.<init>(I)V"},
		{what: "<init> of a class above the one named", classes: list(a, b, d), text: "B.<init>()V", m: "A.<init>()V", err: api.NoSuchMethod},
		{what: "<init> of Object, by a class without one", classes: list(class("D", "Object")), text: "D.<init>()V", m: "Object.<init>()V", err: api.NoSuchMethod},
		{what: "<init> of a class below the one named", classes: list(a, b, d), text: "A.<init>()V", m: "D.<init>()V", err: api.NoSuchMethod},
		{what: "<init> by an interface", classes: list(iface("I"), of(class("D", "Object"), "I")), text: "I:<init>()V", m: "Object.<init>()V", err: api.NoSuchMethod},
		{what: "<init> by an array", classes: list(a, b, d), text: "[LA;.<init>()V", m: "Object.<init>()V", want: "Object.<init>()V"},
		{what: "<init> of what an array is over", classes: list(a, b, d), text: "[LA;.<init>()V", m: "A.<init>()V", err: api.NoSuchMethod},
		{what: "<init> by the method's name alone", classes: list(a, b, d), text: "A.m()V", m: "A.<init>()V", want: "A.<init>()V"},
		{what: "<init> by the reference's name alone", classes: list(class("A", "Object", start, id), class("B", "A", id), class("D", "B")), text: "A.<init>()V", m: "A.id()I", want: "B.id()I"},
	} {
		c.ask(t)
	}
}

// badRefs are references that are not sound, to classes that are there and to one that is not.
func badRefs() []api.Ref {
	var out []api.Ref
	for _, r := range []api.Ref{
		{}, {Class: "A"}, {Class: "A", Name: "m"}, {Class: "A", Desc: "()V"}, {Name: "m", Desc: "()V"}, {Class: "no/Such", Name: "", Desc: "()V"}, {Class: "no/Such", Name: "m", Desc: "()"},
		{Class: "A", Name: "<clinit>", Desc: "()V"}, {Class: "A", Name: "a/b", Desc: "()V"}, {Class: "A", Name: "1", Desc: "()V"}, {Class: "A", Name: "m\x00", Desc: "()V"}, {Class: "A", Name: "\xff", Desc: "()V"},
		{Class: "A", Name: strings.Repeat("n", 61), Desc: "()V"}, {Class: "A", Name: "<init>", Desc: "()"}, {Class: "A", Name: "m", Desc: "V"}, {Class: "A", Name: "m", Desc: "(V)V"}, {Class: "A", Name: "m", Desc: "()VV"},
		{Class: "A", Name: "m", Desc: "(" + strings.Repeat("I", 21) + ")V"}, {Class: "A", Name: "m", Desc: "(" + strings.Repeat("[", 256) + "I)V"}, {Class: "A", Name: "m", Desc: strings.Repeat("(", 100000)},
		{Class: "LA;", Name: "m", Desc: "()V"}, {Class: "[", Name: "m", Desc: "()V"}, {Class: "[A", Name: "m", Desc: "()V"}, {Class: "A ", Name: "m", Desc: "()V"}, {Class: "p//A", Name: "m", Desc: "()V"}, {Class: "\xff", Name: "m", Desc: "()V"},
		{Class: strings.Repeat("[", 256) + "I", Name: "id", Desc: "()I"}, {Class: strings.Repeat("n", 61), Name: "m", Desc: "()V"}, {Class: strings.Repeat("[", 2000) + "I", Name: "m", Desc: "()V"},
	} {
		for _, asIface := range []bool{false, true} {
			r.Iface = asIface
			out = append(out, r)
		}
	}
	return out
}

func TestReferencesThatAreNotSound(t *testing.T) { // P12.3, P12.4: ErrForm
	w := worldOf(t, cm("A", "Object", normal), class("B", "A", method("s", static)), im("I", normal))
	for _, r := range badRefs() {
		for d := range w.Len() {
			for _, m := range []string{"A.m()V", "B.s()V", "I.m()V", "Object.<init>()V"} {
				specialIs(t, w, d, r, find(t, w, m), api.MethodID{}, api.ErrForm)
			}
			for _, kind := range allKinds {
				callIs(t, w, d, kind, r, api.Type{Name: "A"}, api.MethodID{}, api.ErrForm)
			}
		}
	}
}

func TestClassesThatAreNotThere(t *testing.T) { // P12.3, P12.4: NoClassDef
	w := worldOf(t, cm("A", "Object", normal), class("B", "A", method("s", static)))
	for _, text := range []string{"no/Such", "[Lno/Such;", strings.Repeat("[", 255) + "Lno/Such;", "I", "a", "L"} {
		for _, m := range []string{"A.m()V", "B.s()V", "Object.<init>()V"} {
			special(t, w, "B", text+".m()V", m, "", api.NoClassDef)
			special(t, w, "B", text+":<init>()V", m, "", api.NoClassDef)
		}
		for _, kind := range []int{api.Virtual, api.Special, api.StaticInv} {
			call(t, w, "B", kind, text+".m()V", "A", "", api.NoClassDef)
		}
		call(t, w, "B", api.Iface, text+":m()V", "A", "", api.NoClassDef)
		call(t, w, "B", api.Special, text+".<init>()V", "[int", "", api.NoClassDef)
	}
	for _, recv := range []string{"no/Such", "[no/Such", "I", "a"} {
		for _, kind := range []int{api.Virtual, api.Special} {
			call(t, w, "B", kind, "A.m()V", recv, "", api.NoClassDef)
		}
		call(t, w, "B", api.Iface, "A:m()V", recv, "", api.NoClassDef)
	}
}
