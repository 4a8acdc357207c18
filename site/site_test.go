package site

import (
	"fmt"
	"math"
	"slices"
	"strings"
	"testing"

	"arbiter/api"
	"arbiter/code"
	"arbiter/hier"
	"arbiter/link"
)

// The flags of methods, as they are written most often.
const (
	normal   = api.Public
	abstract = api.Public | api.AbstractFl
	static   = api.Public | api.Static
)

// oddNumbers are numbers of no class of any world.
var oddNumbers = []int{-1, math.MinInt, math.MaxInt, -2, api.MaxClasses, api.MaxClasses + 1, 1 << 32, -1 << 32, 1<<32 + 1}

// oddKinds are no kinds of invocations.
var oddKinds = []int{0, 5, -1, 6, -4, math.MinInt, math.MaxInt, 1 << 32, 1<<32 + 1, -1<<32 + 4}

// allKinds are the four kinds, of which the first and the last are the edges.
var allKinds = []int{api.Virtual, api.Iface, api.Special, api.StaticInv}

// oddCapacities are none of a cache.
var oddCapacities = []int{-1, 65, math.MinInt, math.MaxInt, 1 << 32, -1<<32 + 1, 66}

// capacities are of all kinds of caches, with both edges.
var capacities = []int{0, 1, 2, 3, 64}

// method has the descriptor ()V, unless its name brings one.
func method(name string, flags int) api.Method {
	m := api.Method{Name: name, Desc: "()V", Flags: flags}
	if at := strings.Index(name, "("); at >= 0 {
		m.Name, m.Desc = name[:at], name[at:]
	}
	if flags&api.AbstractFl == 0 {
		m.Locals, m.Code = 4, []api.Inst{{Op: api.Return}}
	}
	return m
}

func class(name, super string, methods ...api.Method) api.Class {
	return api.Class{Name: name, Super: super, Flags: api.Public | api.Super | api.AbstractFl, Methods: methods}
}

func iface(name string, methods ...api.Method) api.Class {
	return api.Class{Name: name, Super: "Object", Flags: api.Public | api.Interface | api.AbstractFl, Methods: methods}
}

// of names interfaces, shut takes Public away, old takes Super away.
func of(c api.Class, ifaces ...string) api.Class {
	c.Ifaces = ifaces
	return c
}

func shut(c api.Class) api.Class {
	c.Flags &^= api.Public
	return c
}

func old(c api.Class) api.Class {
	c.Flags &^= api.Super
	return c
}

// show cuts what it shows, since texts may be long.
func show(thing any) string {
	text := fmt.Sprintf("%+v", thing)
	return text[:min(len(text), 200)]
}

func define(t *testing.T, w *hier.World, c api.Class) int {
	t.Helper()
	id, e := w.Define(c)
	if e != api.OK {
		t.Fatalf("Define(%s): %d", show(c), e)
	}
	return id
}

func worldOf(t *testing.T, classes ...api.Class) *hier.World {
	t.Helper()
	w := hier.New()
	for _, c := range classes {
		define(t, w, c)
	}
	return w
}

func newLinker(t *testing.T, w *hier.World) *link.Linker {
	t.Helper()
	l, e := link.New(w)
	if e != api.OK {
		t.Fatalf("link.New: %d", e)
	}
	return l
}

// linkerOf links a world of these classes.
func linkerOf(t *testing.T, classes ...api.Class) *link.Linker {
	t.Helper()
	return newLinker(t, worldOf(t, classes...))
}

func number(t *testing.T, l *link.Linker, name string) int {
	t.Helper()
	id, e := l.World().ByName(name)
	if e != api.OK {
		t.Fatalf("ByName(%s): %d", name, e)
	}
	return id
}

// ref cuts a reference's text, sound or not: p/A.m()V or p/I:m()V.
func ref(text string) api.Ref {
	at := strings.IndexAny(text, ".:")
	name, desc := text[at+1:], ""
	if end := strings.Index(name, "("); end >= 0 {
		name, desc = name[:end], name[end:]
	}
	return api.Ref{Iface: text[at] == ':', Class: text[:at], Name: name, Desc: desc}
}

// typ is the type of a text such as [[A or int.
func typ(text string) api.Type {
	name := strings.TrimLeft(text, "[")
	dims := len(text) - len(name)
	if name == "int" {
		name = ""
	}
	return api.Type{Dims: dims, Name: name}
}

// find finds the method that a text such as p/A.m()V says; the zero method, if it is empty.
func find(t *testing.T, l *link.Linker, text string) api.MethodID {
	t.Helper()
	if text == "" {
		return api.MethodID{}
	}
	r := ref(text)
	id := number(t, l, r.Class)
	at, e := l.World().Find(id, r.Name, r.Desc)
	if e != api.OK {
		t.Fatalf("no method %s", text)
	}
	return api.MethodID{Class: id, Index: at}
}

// site is a site of the class from, by texts.
func site(t *testing.T, l *link.Linker, from string, kind int, text string, capacity int) subject {
	t.Helper()
	return newSubject(t, l, number(t, l, from), kind, ref(text), capacity)
}

// runs says by texts what a receiver runs, or the error.
func (s subject) runs(t *testing.T, recv, want string, err api.Errno) {
	t.Helper()
	m := find(t, s.linker, want)
	if got, e := s.call(t, typ(recv)); got != m || e != err {
		t.Errorf("%s: Call(%s) = %v, %d, want %v, %d", s.about(), recv, got, e, m, err)
	}
}

func (s subject) links(t *testing.T, want api.Errno) {
	t.Helper()
	if got := s.link(t); got != want {
		t.Errorf("%s: Link() = %d, want %d", s.about(), got, want)
	}
}

func (s subject) hitsAre(t *testing.T, hits, misses int) {
	t.Helper()
	if h, m := s.Hits(); h != hits || m != misses {
		t.Errorf("%s: Hits() = %d, %d, want %d, %d", s.about(), h, m, hits, misses)
	}
}

func newIs(t *testing.T, l *link.Linker, d, kind int, r api.Ref, capacity int, want api.Errno) {
	t.Helper()
	s, e := New(l, d, kind, r, capacity)
	if e != want || (s != nil) != (want == api.OK) {
		t.Errorf("New(%d, %d, %s, %d) = %v, %d, want %d", d, kind, show(r), capacity, s, e, want)
	}
}

// cityClasses have methods of each kind, in classes and interfaces that others see from above, below and beside.
func cityClasses() []api.Class {
	return []api.Class{
		class("A", "Object", method("m", normal), method("s", static), method("p", api.Private), method("w", 0), method("<init>", normal), method("<init>(I)V", api.Private), method("z", abstract)),
		class("B", "A", method("m", normal), method("id()I", normal)),
		class("C", "B", method("m", normal)),
		old(class("O", "B", method("m", normal))),
		iface("I", method("a", abstract), method("d", normal), method("s", static), method("p", api.Private), method("two", normal), method("m", abstract)),
		iface("J", method("two", normal)),
		of(iface("K"), "I"),
		of(class("N", "C"), "K"),
		of(class("T", "Object", method("a", api.Protected)), "I", "J"),
		of(class("U", "Object"), "I", "J"),
		class("q/X", "Object"),
		shut(class("q/Shut", "A")), shut(of(iface("q/ShutI"), "I")),
		// A's w is overridden by what is of its package alone, also from below another package's w.
		class("r/W", "A", method("w", normal)),
		class("W2", "r/W", method("w", normal)),
	}
}

func city(t *testing.T) *link.Linker {
	t.Helper()
	return linkerOf(t, cityClasses()...)
}

// cityCase says by texts what an invocation from the class q/X runs, if none other is named.
type cityCase struct {
	kind             int
	from, text, recv string
	want             string
	err              api.Errno
}

func cityCases() []cityCase {
	return slices.Concat(virtualCases(), ifaceCases(), specialCases(), staticCases(), arrayCases())
}

func virtualCases() []cityCase {
	const kind = api.Virtual
	return []cityCase{
		{kind: kind, text: "A.m()V", recv: "A", want: "A.m()V"},
		{kind: kind, text: "A.m()V", recv: "B", want: "B.m()V"},
		{kind: kind, text: "A.m()V", recv: "N", want: "C.m()V"},
		{kind: kind, text: "B.m()V", recv: "C", want: "C.m()V"},
		{kind: kind, text: "N.m()V", recv: "N", want: "C.m()V"},
		{kind: kind, text: "N.d()V", recv: "N", want: "I.d()V"},
		{kind: kind, text: "N.w()V", recv: "N", from: "A", want: "A.w()V"},
		{kind: kind, text: "A.w()V", recv: "r/W", from: "A", want: "A.w()V"},
		{kind: kind, text: "A.w()V", recv: "W2", from: "A", want: "W2.w()V"},
		{kind: kind, text: "r/W.w()V", recv: "W2", from: "A", want: "W2.w()V"},
		{kind: kind, text: "A.p()V", recv: "C", from: "A", want: "A.p()V"},
		{kind: kind, text: "C.id()I", recv: "N", want: "B.id()I"},
		{kind: kind, text: "Object.id()I", recv: "A", want: "Object.id()I"},
		{kind: kind, text: "Object.id()I", recv: "C", want: "B.id()I"},
		{kind: kind, text: "Object.kin()LObject;", recv: "C", want: "Object.kin()LObject;"},
		// Each of its errors.
		{kind: kind, text: "A.m()V", recv: "int", err: api.ErrArg},
		{kind: kind, text: "A.m()V", recv: "I", err: api.ErrArg},
		{kind: kind, text: "A.m()V", recv: "Cloneable", err: api.ErrArg},
		{kind: kind, text: "A.m()V", recv: "1", err: api.ErrForm},
		{kind: kind, text: "A.m()V", recv: "no/Such", err: api.NoClassDef},
		{kind: kind, text: "A:m()V", recv: "A", err: api.Malformed},
		{kind: kind, text: "I:d()V", recv: "N", err: api.Malformed},
		{kind: kind, text: "A.<init>()V", recv: "A", err: api.Malformed},
		{kind: kind, text: "no/Such.m()V", recv: "A", err: api.NoClassDef},
		{kind: kind, text: "A.none()V", recv: "A", err: api.NoSuchMethod},
		{kind: kind, text: "A.p()V", recv: "A", err: api.IllegalAccess},
		{kind: kind, text: "A.w()V", recv: "A", err: api.IllegalAccess},
		{kind: kind, text: "q/Shut.m()V", recv: "A", from: "A", err: api.IllegalAccess},
		{kind: kind, text: "I.d()V", recv: "N", err: api.Incompatible},
		{kind: kind, text: "A.s()V", recv: "A", err: api.Incompatible},
		{kind: kind, text: "B.m()V", recv: "A", err: api.Incompatible},
		{kind: kind, text: "A.m()V", recv: "Object", err: api.Incompatible},
		{kind: kind, text: "A.m()V", recv: "q/X", err: api.Incompatible},
		{kind: kind, text: "A.z()V", recv: "C", err: api.Abstract},
		{kind: kind, text: "U.two()V", recv: "U", err: api.Incompatible},
		{kind: kind, text: "U.a()V", recv: "U", err: api.Abstract},
	}
}

func ifaceCases() []cityCase {
	const kind = api.Iface
	return []cityCase{
		{kind: kind, text: "I:m()V", recv: "N", want: "C.m()V"},
		{kind: kind, text: "K:m()V", recv: "N", want: "C.m()V"},
		{kind: kind, text: "I:d()V", recv: "N", want: "I.d()V"},
		{kind: kind, text: "K:d()V", recv: "N", want: "I.d()V"},
		{kind: kind, text: "K:id()I", recv: "N", want: "B.id()I"},
		{kind: kind, text: "J:id()I", recv: "U", want: "Object.id()I"},
		// Each of its errors.
		{kind: kind, text: "I:m()V", recv: "int", err: api.ErrArg},
		{kind: kind, text: "I:m()V", recv: "K", err: api.ErrArg},
		{kind: kind, text: "I:m()V", recv: "[1", err: api.ErrForm},
		{kind: kind, text: "I:m()V", recv: "[no/Such", err: api.NoClassDef},
		{kind: kind, text: "I.m()V", recv: "N", err: api.Malformed},
		{kind: kind, text: "K:<init>()V", recv: "N", err: api.Malformed},
		{kind: kind, text: "A.<init>()V", recv: "N", err: api.Malformed},
		{kind: kind, text: "no/Such:m()V", recv: "N", err: api.NoClassDef},
		{kind: kind, text: "I:none()V", recv: "N", err: api.NoSuchMethod},
		{kind: kind, text: "I:kin()LObject;", recv: "N", err: api.NoSuchMethod},
		{kind: kind, text: "I:p()V", recv: "N", err: api.IllegalAccess},
		{kind: kind, text: "q/ShutI:m()V", recv: "N", from: "A", err: api.IllegalAccess},
		{kind: kind, text: "A:m()V", recv: "A", err: api.Incompatible},
		{kind: kind, text: "I:s()V", recv: "N", err: api.Incompatible},
		{kind: kind, text: "I:p()V", recv: "N", from: "I", err: api.Incompatible},
		{kind: kind, text: "J:two()V", recv: "N", err: api.Incompatible},
		{kind: kind, text: "I:m()V", recv: "C", err: api.Incompatible},
		{kind: kind, text: "I:a()V", recv: "T", err: api.IllegalAccess},
		{kind: kind, text: "I:a()V", recv: "U", err: api.Abstract},
		{kind: kind, text: "I:two()V", recv: "U", err: api.Incompatible},
	}
}

func specialCases() []cityCase {
	const kind = api.Special
	return []cityCase{
		{kind: kind, text: "A.m()V", recv: "C", from: "C", want: "B.m()V"},
		{kind: kind, text: "A.m()V", recv: "A", from: "C", want: "B.m()V"},
		{kind: kind, text: "A.m()V", recv: "O", from: "O", want: "A.m()V"},
		{kind: kind, text: "C.m()V", recv: "N", from: "C", want: "C.m()V"},
		{kind: kind, text: "A.m()V", recv: "C", want: "A.m()V"},
		{kind: kind, text: "A.p()V", recv: "C", from: "A", want: "A.p()V"},
		{kind: kind, text: "I:p()V", recv: "N", from: "I", want: "I.p()V"},
		{kind: kind, text: "I:d()V", recv: "N", from: "N", want: "I.d()V"},
		{kind: kind, text: "K:d()V", recv: "N", from: "N", want: "I.d()V"},
		{kind: kind, text: "K:id()I", recv: "N", from: "N", want: "Object.id()I"},
		{kind: kind, text: "Object.id()I", recv: "C", from: "C", want: "B.id()I"},
		{kind: kind, text: "A.<init>()V", recv: "C", from: "C", want: "A.<init>()V"},
		{kind: kind, text: "A.<init>(I)V", recv: "A", from: "A", want: "A.<init>(I)V"},
		// Each of its errors.
		{kind: kind, text: "A.m()V", recv: "int", err: api.ErrArg},
		{kind: kind, text: "I:d()V", recv: "I", err: api.ErrArg},
		{kind: kind, text: "A.m()V", recv: "p/", err: api.ErrForm},
		{kind: kind, text: "A.m()V", recv: "no/Such", err: api.NoClassDef},
		{kind: kind, text: "no/Such.<init>()V", recv: "A", err: api.NoClassDef},
		{kind: kind, text: "A.none()V", recv: "A", err: api.NoSuchMethod},
		{kind: kind, text: "A.<init>(II)V", recv: "A", err: api.NoSuchMethod},
		{kind: kind, text: "A.<init>(I)V", recv: "A", err: api.IllegalAccess},
		{kind: kind, text: "I.d()V", recv: "N", err: api.Incompatible},
		{kind: kind, text: "A:m()V", recv: "A", err: api.Incompatible},
		{kind: kind, text: "A.s()V", recv: "A", err: api.Incompatible},
		{kind: kind, text: "B.m()V", recv: "A", err: api.Incompatible},
		{kind: kind, text: "A.<init>()V", recv: "Object", err: api.Incompatible},
		{kind: kind, text: "B.<init>()V", recv: "C", err: api.NoSuchMethod},
		{kind: kind, text: "K:<init>()V", recv: "N", err: api.NoSuchMethod},
		{kind: kind, text: "A.z()V", recv: "C", from: "C", err: api.Abstract},
		{kind: kind, text: "I:a()V", recv: "N", from: "N", err: api.Abstract},
		{kind: kind, text: "U.two()V", recv: "U", from: "U", err: api.Incompatible},
	}
}

// staticCases have receivers of all kinds: none is looked at.
func staticCases() []cityCase {
	const kind = api.StaticInv
	var out []cityCase
	for _, recv := range []string{"int", "A", "q/X", "I", "[int", "no/Such", "[no/Such", "1", "\xff"} {
		out = append(out, []cityCase{
			{kind: kind, text: "A.s()V", recv: recv, want: "A.s()V"},
			{kind: kind, text: "N.s()V", recv: recv, want: "A.s()V"},
			{kind: kind, text: "I:s()V", recv: recv, want: "I.s()V"},
			{kind: kind, text: "A.<init>()V", recv: recv, err: api.Malformed},
			{kind: kind, text: "no/Such.s()V", recv: recv, err: api.NoClassDef},
			{kind: kind, text: "A.none()V", recv: recv, err: api.NoSuchMethod},
			{kind: kind, text: "K:s()V", recv: recv, err: api.NoSuchMethod},
			{kind: kind, text: "q/Shut.s()V", recv: recv, from: "A", err: api.IllegalAccess},
			{kind: kind, text: "A:s()V", recv: recv, err: api.Incompatible},
			{kind: kind, text: "A.m()V", recv: recv, err: api.Incompatible},
			{kind: kind, text: "[I.id()I", recv: recv, err: api.Incompatible},
		}...)
	}
	return out
}

func arrayCases() []cityCase {
	deep := strings.Repeat("[", api.MaxDims)
	var out []cityCase
	for _, recv := range []string{"[int", "[[int", deep + "int", "[Object", "[A", "[[B", deep + "A", "[I", "[[K", "[Cloneable"} {
		out = append(out, []cityCase{
			{kind: api.Virtual, text: "Object.id()I", recv: recv, want: "Object.id()I"},
			{kind: api.Virtual, text: "A.m()V", recv: recv, err: api.Incompatible},
			{kind: api.Iface, text: "Cloneable:id()I", recv: recv, want: "Object.id()I"},
			{kind: api.Iface, text: "I:id()I", recv: recv, err: api.Incompatible},
			{kind: api.Special, text: "Object.id()I", recv: recv, from: "C", want: "B.id()I"},
			{kind: api.Special, text: "Cloneable:<init>()V", recv: recv, err: api.NoSuchMethod},
		}...)
	}
	for _, kind := range []int{api.Virtual, api.Special} {
		out = append(out, []cityCase{
			{kind: kind, text: "[I.id()I", recv: "[int", want: "Object.id()I"},
			{kind: kind, text: "[I.id()I", recv: "[[int", err: api.Incompatible},
			{kind: kind, text: "[I.id()I", recv: "[A", err: api.Incompatible},
			{kind: kind, text: "[I.id()I", recv: "Object", err: api.Incompatible},
			{kind: kind, text: "[LB;.id()I", recv: "[B", from: "C", want: "Object.id()I"},
			{kind: kind, text: "[LB;.id()I", recv: "[A", err: api.Incompatible},
			{kind: kind, text: "[LB;.id()I", recv: "B", err: api.Incompatible},
			{kind: kind, text: "[LI;.id()I", recv: "[N", want: "Object.id()I"},
			{kind: kind, text: "[LI;.id()I", recv: "[[N", err: api.Incompatible},
			{kind: kind, text: "[LA;.m()V", recv: "[A", err: api.NoSuchMethod},
		}...)
	}
	return append(out, cityCase{kind: api.Iface, text: "[LI;:id()I", recv: "[N", err: api.Incompatible})
}

// receivers are types of all classes, arrays over them and over int, and such as are refused.
func receivers(w *hier.World) []api.Type {
	out := []api.Type{{}, {Dims: 1}, {Dims: 255}, {Dims: 256}, {Dims: -1, Name: "Object"}, {Name: "1"}, {Name: "no/Such"}, {Dims: 1, Name: "no/Such"}, {Dims: math.MinInt}, {Dims: math.MaxInt, Name: "A"}}
	for _, c := range classesOf(w) {
		out = append(out, api.Type{Name: c.Name}, api.Type{Dims: 1, Name: c.Name}, api.Type{Dims: 2, Name: c.Name})
	}
	return out
}

func TestNew(t *testing.T) { // P19.1: both edges of each number, and one beyond
	l := city(t)
	n, fine := l.World().Len(), ref("A.m()V")
	for _, d := range []int{0, 1, n - 1} {
		newIs(t, l, d, api.Virtual, fine, 1, api.OK)
	}
	for _, d := range append([]int{n, n + 1}, oddNumbers...) {
		newIs(t, l, d, api.Virtual, fine, 1, api.ErrRange)
	}
	for _, kind := range allKinds {
		newIs(t, l, 0, kind, fine, 1, api.OK)
	}
	for _, kind := range oddKinds {
		newIs(t, l, 0, kind, fine, 1, api.ErrArg)
	}
	for capacity := range api.MaxCache + 1 {
		newIs(t, l, 0, api.Virtual, fine, capacity, api.OK)
	}
	for _, capacity := range oddCapacities {
		newIs(t, l, 0, api.Virtual, fine, capacity, api.ErrBadConfig)
	}
	newIs(t, nil, 0, api.Virtual, fine, 1, api.ErrArg)
	newIs(t, &link.Linker{}, 0, api.Virtual, fine, 1, api.ErrRange) // it has no world, and so no class
}

func TestNewHoldsTheReference(t *testing.T) { // P19.1: just those that code.RefCheck refuses are refused
	l := city(t)
	long := strings.Repeat("n", api.MaxName)
	for _, r := range []api.Ref{{}, ref("A.m"), ref("A.()V"), ref(".m()V"), ref("A.1()V"), ref("A.m(V)V"), ref("A.m()"), ref("LA;.m()V"), ref("[A.m()V"), ref("[V.id()I"), ref("1:m()V"), ref("A." + long + "n()V"), ref(long + "n.m()V"), ref(strings.Repeat("[", 256) + "I.id()I"), ref("A.\xff()V"), {Iface: true}, {Class: "A", Name: "<clinit>", Desc: "()V"}} {
		if code.RefCheck(r) == api.OK {
			t.Fatalf("%s is sound", show(r))
		}
		for _, kind := range allKinds {
			newIs(t, l, 0, kind, r, 1, api.ErrForm)
		}
	}
	for _, text := range []string{"A.m()V", "I:m()V", "no/Such.m()V", "A.none(I)LA;", "A.<init>()V", "I:<init>()V", "[I.id()I", "[I:id()I", long + "." + long + "()V", strings.Repeat("[", 255) + "I.id()I", "A.<init>()I"} {
		for _, kind := range allKinds { // whether a kind may have it, and whether it names anything, is a call's to say
			newIs(t, l, 0, kind, ref(text), 1, api.OK)
		}
	}
}

func TestTheOrderOfNewsErrors(t *testing.T) { // R2; P19.1
	l := city(t)
	newIs(t, nil, -1, 0, api.Ref{}, -1, api.ErrArg)
	newIs(t, nil, -1, api.Virtual, ref("A.m()V"), 1, api.ErrArg)
	newIs(t, nil, 0, api.Virtual, api.Ref{}, 65, api.ErrArg)
	newIs(t, l, -1, 0, api.Ref{}, -1, api.ErrRange)
	newIs(t, l, l.World().Len(), 5, ref("A.m()V"), 1, api.ErrRange)
	newIs(t, l, -1, api.Virtual, api.Ref{}, 1, api.ErrRange)
	newIs(t, l, -1, api.Virtual, ref("A.m()V"), 65, api.ErrRange)
	newIs(t, l, 0, 0, api.Ref{}, -1, api.ErrArg)
	newIs(t, l, 0, 5, api.Ref{}, 1, api.ErrArg)
	newIs(t, l, 0, 5, ref("A.m()V"), 65, api.ErrArg)
	newIs(t, l, 0, 1, api.Ref{}, -1, api.ErrForm)
	newIs(t, l, 0, 4, ref("A.1()V"), 65, api.ErrForm)
}

func TestNewDoesNothingYet(t *testing.T) { // P19.1: nothing is resolved, read, asked of the cache, or built
	l := city(t)
	for _, kind := range allKinds {
		for _, capacity := range capacities {
			s := site(t, l, "A", kind, "A.m()V", capacity)
			s.isResolved(t, false)
			s.hitsAre(t, 0, 0)
			if s.Reads() != 0 || l.Builds() != 0 {
				t.Errorf("a new site has read %d words, and %d classes are built", s.Reads(), l.Builds())
			}
		}
	}
}

func TestNewAsksTheWorldAsItIs(t *testing.T) { // P19.1: a class that arrives has sites, too
	l := city(t)
	next := l.World().Len()
	newIs(t, l, next, api.Virtual, ref("A.m()V"), 1, api.ErrRange)
	define(t, l.World(), class("Late", "A"))
	newIs(t, l, next, api.Virtual, ref("A.m()V"), 1, api.OK)
	newIs(t, l, next+1, api.Virtual, ref("A.m()V"), 1, api.ErrRange)
}

func TestExampleOne(t *testing.T) { // P19.2
	for _, capacity := range capacities {
		l := linkerOf(t, class("A", "Object", method("m", normal)), class("B", "A", method("m", normal)))
		s := site(t, l, "A", api.Virtual, "A.m()V", capacity)
		s.runs(t, "A", "A.m()V", api.OK)
		s.runs(t, "B", "B.m()V", api.OK)
		s.runs(t, "int", "", api.ErrArg)
		s.runs(t, "C", "", api.NoClassDef)
		define(t, l.World(), class("C", "B"))
		s.runs(t, "C", "B.m()V", api.OK)
	}
}

func TestExampleTwo(t *testing.T) { // P19.2, P19.3
	for _, capacity := range capacities {
		l := linkerOf(t)
		s := site(t, l, "Object", api.Virtual, "no/Such.m()V", capacity)
		for range 3 {
			s.runs(t, "Object", "", api.NoClassDef)
			s.isResolved(t, false)
		}
		define(t, l.World(), class("no/Other", "Object"))
		s.runs(t, "no/Other", "", api.NoClassDef)
		s.isResolved(t, false)
		define(t, l.World(), class("no/Such", "Object", method("m", normal)))
		s.runs(t, "no/Such", "no/Such.m()V", api.OK)
		s.isResolved(t, true)
		s.runs(t, "Object", "", api.Incompatible)
	}
}

func TestExampleThree(t *testing.T) { // P19.2: the same whatever the capacity
	l := city(t)
	for _, c := range cityCases() {
		var first subject
		for at, capacity := range []int{0, 1, 2, 64} {
			s := newSubject(t, l, number(t, l, "q/X"), c.kind, ref(c.text), capacity)
			if at == 0 {
				first = s
			}
			for range 3 {
				got, e := s.Call(typ(c.recv))
				if want, wantErr := first.Call(typ(c.recv)); got != want || e != wantErr {
					t.Errorf("%s: Call(%s) = %v, %d at capacity %d, and %v, %d at 0", s.about(), c.recv, got, e, capacity, want, wantErr)
				}
			}
		}
	}
}

func TestCalledByTheFirst(t *testing.T) { // P19.2: a site is asked for one receiver, again and again
	for _, capacity := range capacities {
		l := city(t)
		for _, c := range cityCases() {
			if c.from == "" {
				c.from = "q/X"
			}
			s := site(t, l, c.from, c.kind, c.text, capacity)
			for range 3 {
				s.runs(t, c.recv, c.want, c.err)
			}
		}
	}
}

func TestCalledByAll(t *testing.T) { // P19.2, P0.2: each site is asked for all receivers, by all kinds, from all classes
	l := city(t)
	all := receivers(l.World())
	var texts []string
	for _, c := range cityCases() {
		texts = append(texts, c.text)
	}
	slices.Sort(texts)
	for _, text := range slices.Compact(texts) {
		for d := range l.World().Len() {
			for _, kind := range allKinds {
				capacity := capacities[(d+kind)%len(capacities)]
				s := newSubject(t, l, d, kind, ref(text), capacity)
				for _, recv := range all {
					s.call(t, recv)
				}
				for _, recv := range slices.Backward(all) {
					s.call(t, recv)
				}
			}
		}
	}
}

func TestReceiversInTurns(t *testing.T) { // P19.2: they drive one another out of the cache, before and behind classes that arrive
	for _, capacity := range capacities {
		l := city(t)
		var sites []subject
		for _, c := range cityCases() {
			sites = append(sites, newSubject(t, l, number(t, l, "A"), c.kind, ref(c.text), capacity))
		}
		for round := range 4 {
			for _, s := range sites {
				for _, recv := range []string{"A", "B", "A", "C", "C", "A", "N", "U", "B", "T", "U", "[A", "N", "Late0", "Late1", "Object", "[A", "Late0", "B"} {
					s.call(t, typ(recv))
				}
			}
			if round < 2 {
				define(t, l.World(), of(class(fmt.Sprint("Late", round), []string{"N", "B"}[round], method("m", normal), method("a", normal)), "J"))
			}
		}
	}
}

func TestCallOfAReceiverThatArrives(t *testing.T) { // P19.2, P0.3: what was refused as not there is answered behind its arrival, and nothing else turns
	for _, capacity := range capacities {
		for _, kind := range []int{api.Virtual, api.Iface, api.Special} {
			l := linkerOf(t, iface("I", method("m", normal)), of(class("A", "Object", method("m", normal)), "I"))
			text := "A.m()V"
			if kind == api.Iface {
				text = "I:m()V"
			}
			s := site(t, l, "Object", kind, text, capacity)
			for n := range 6 {
				late := fmt.Sprint("D", n)
				s.runs(t, late, "", api.NoClassDef)
				s.runs(t, "["+late, "", api.NoClassDef)
				define(t, l.World(), class(late, "A", method("m", normal)))
				want := late + ".m()V"
				if kind == api.Special {
					want = "A.m()V"
				}
				s.runs(t, late, want, api.OK)
				s.runs(t, "["+late, "", api.Incompatible)
				s.runs(t, "A", "A.m()V", api.OK)
			}
		}
	}
}

func TestTheOrderOfCallsErrors(t *testing.T) { // R2; P19.2: what is wrong with the receiver, the kind, the reference, the method's kind, being below
	l := city(t)
	for _, capacity := range capacities {
		for _, kind := range []int{api.Virtual, api.Iface, api.Special} {
			for _, text := range []string{"no/Such.m()V", "A.<init>()V", "A:m()V", "I.m()V", "A.s()V", "A.none()V"} {
				s := site(t, l, "q/X", kind, text, capacity)
				s.runs(t, "int", "", api.ErrArg)
				s.runs(t, "I", "", api.ErrArg)
				s.runs(t, "1", "", api.ErrForm)
				s.runs(t, "no/Other", "", api.NoClassDef)
			}
		}
		site(t, l, "q/X", api.Virtual, "no/Such:m()V", capacity).runs(t, "A", "", api.Malformed)
		site(t, l, "q/X", api.Iface, "no/Such.m()V", capacity).runs(t, "A", "", api.Malformed)
		site(t, l, "q/X", api.StaticInv, "no/Such.<init>()V", capacity).runs(t, "A", "", api.Malformed)
		site(t, l, "q/X", api.Virtual, "no/Such.m()V", capacity).runs(t, "q/X", "", api.NoClassDef)
		site(t, l, "q/X", api.Virtual, "A.none()V", capacity).runs(t, "q/X", "", api.NoSuchMethod)
		site(t, l, "q/X", api.Special, "A.<init>(I)V", capacity).runs(t, "q/X", "", api.IllegalAccess)
		site(t, l, "q/X", api.Virtual, "A.z()V", capacity).runs(t, "q/X", "", api.Incompatible)
		site(t, l, "q/X", api.Special, "B.<init>()V", capacity).runs(t, "A", "", api.Incompatible)
	}
}

func TestResolved(t *testing.T) { // P19.3
	l := city(t)
	for _, c := range []struct {
		kind       int
		text, recv string
		want       bool
	}{
		// Refused ahead of resolution: by the receiver, and by the kind.
		{api.Virtual, "A.m()V", "int", false},
		{api.Virtual, "A.m()V", "I", false},
		{api.Virtual, "A.m()V", "1", false},
		{api.Virtual, "A.m()V", "[no/Such", false},
		{api.Iface, "I:m()V", "K", false},
		{api.Special, "A.m()V", "int", false},
		{api.Virtual, "A.<init>()V", "A", false},
		{api.Virtual, "I:m()V", "N", false},
		{api.Iface, "A.m()V", "A", false},
		{api.Iface, "I:<init>()V", "N", false},
		{api.StaticInv, "A.<init>()V", "A", false},
		// The reference cannot be resolved.
		{api.Virtual, "no/Such.m()V", "A", false},
		{api.Virtual, "A.none()V", "A", false},
		{api.Virtual, "A.p()V", "A", false},
		{api.Virtual, "I.m()V", "A", false},
		{api.Iface, "A:m()V", "A", false},
		{api.StaticInv, "K:s()V", "A", false},
		// It is resolved, and the call refused behind it.
		{api.Virtual, "A.s()V", "A", true},
		{api.StaticInv, "A.m()V", "int", true},
		{api.Iface, "I:s()V", "N", true},
		{api.Virtual, "A.m()V", "Object", true},
		{api.Virtual, "A.z()V", "A", true},
		{api.Special, "B.<init>()V", "B", true},
		{api.Special, "A.m()V", "[int", true},
		{api.Iface, "I:a()V", "U", true},
		// It is answered.
		{api.Virtual, "A.m()V", "A", true},
		{api.Iface, "I:m()V", "N", true},
		{api.Special, "A.<init>()V", "A", true},
		{api.StaticInv, "A.s()V", "no/Such", true},
	} {
		for _, capacity := range capacities {
			s := site(t, l, "q/X", c.kind, c.text, capacity)
			s.isResolved(t, false)
			for range 2 {
				s.call(t, typ(c.recv))
				s.isResolved(t, c.want)
			}
			s = site(t, l, "q/X", c.kind, c.text, capacity)
			s.calls(t, nil, 3)
			s.isResolved(t, false)
			s.calls(t, []api.Type{typ(c.recv)}, 3)
			s.isResolved(t, c.want)
			s.Reads()
			s.Hits()
			s.isResolved(t, c.want)
		}
	}
}

func TestResolvedStays(t *testing.T) { // P19.3: behind calls that are refused ahead of resolution, too
	l := city(t)
	s := site(t, l, "q/X", api.Virtual, "A.m()V", 1)
	s.runs(t, "A", "A.m()V", api.OK)
	for _, recv := range []string{"int", "I", "1", "no/Such", "Object", "[A"} {
		s.call(t, typ(recv))
		s.isResolved(t, true)
	}
	define(t, l.World(), class("Late", "A"))
	s.isResolved(t, true)
}

func TestResolvedBehindLink(t *testing.T) { // P19.3, P19.8
	l := city(t)
	for text, want := range map[string]bool{"A.m()V": true, "A.s()V": true, "A.z()V": true, "A.none()V": false, "no/Such.m()V": false, "A.<init>()V": false, "A:m()V": false, "I.m()V": false} {
		s := site(t, l, "q/X", api.Virtual, text, 1)
		for range 2 {
			s.link(t)
			s.isResolved(t, want)
		}
	}
	s := site(t, l, "q/X", api.StaticInv, "Late.m()V", 1)
	s.links(t, api.NoClassDef)
	s.isResolved(t, false)
	define(t, l.World(), class("Late", "A", method("m", static)))
	s.isResolved(t, false) // the class is there, but no call has asked for it
	s.links(t, api.OK)
	s.isResolved(t, true)
}

func TestResolvedOfAClassThatArrives(t *testing.T) { // P19.3: just NoClassDef is turned by an arrival
	for _, kind := range []int{api.Virtual, api.Special} {
		l := city(t)
		sites := map[string]subject{}
		for _, text := range []string{"Late.m()V", "[LLate;.id()I", "Late.none()V", "Later.m()V", "Late.p()V"} {
			sites[text] = site(t, l, "A", kind, text, 2)
			sites[text].runs(t, "A", "", api.NoClassDef)
			sites[text].isResolved(t, false)
		}
		define(t, l.World(), class("Late", "A"))
		for text, want := range map[string]bool{"Late.m()V": true, "[LLate;.id()I": true, "Late.none()V": false, "Later.m()V": false, "Late.p()V": true} {
			sites[text].runs(t, "int", "", api.ErrArg)
			sites[text].isResolved(t, false)
			sites[text].call(t, typ("Late"))
			sites[text].isResolved(t, want)
		}
	}
}

// deepWorld has a chain of classes D0 and so on, each with m and methods of its own, and interfaces I0 and so on, each below the one ahead, of which the lowest class has all.
func deepWorld(t *testing.T, depth, ifaces int) *link.Linker {
	t.Helper()
	w := hier.New()
	super := "Object"
	for n := range depth {
		c := class(fmt.Sprint("D", n), super, method("m", normal), method(fmt.Sprint("o", n), normal))
		if n%3 == 1 {
			c.Methods = append(c.Methods, method("z", abstract))
		}
		define(t, w, c)
		super = c.Name
	}
	var above []string
	for n := range ifaces {
		c := of(iface(fmt.Sprint("I", n), method("i", []int{normal, abstract}[n%2]), method(fmt.Sprint("j", n), normal)), above...)
		define(t, w, c)
		above = []string{c.Name}
	}
	define(t, w, of(class("Wide", super, method("k", normal)), above...))
	define(t, w, class("Below", "Wide", method("m", normal)))
	return newLinker(t, w)
}

func TestReadsAreBound(t *testing.T) { // P19.4: the bound is held call by call in subject.call
	l := deepWorld(t, 60, 70)
	for _, capacity := range capacities {
		for _, c := range []struct {
			kind int
			text string
		}{
			{api.Virtual, "D0.m()V"}, {api.Virtual, "D59.m()V"}, {api.Virtual, "D40.o3()V"}, {api.Virtual, "D58.z()V"}, {api.Virtual, "Wide.id()I"}, {api.Virtual, "Object.id()I"}, {api.Virtual, "Wide.k()V"},
			{api.Special, "D0.m()V"}, {api.Special, "Wide.m()V"}, {api.Special, "Object.<init>()V"}, {api.Special, "Object.id()I"},
			{api.Virtual, "Wide.i()V"}, {api.Virtual, "Wide.j0()V"}, {api.Virtual, "Wide.j69()V"}, {api.Virtual, "Below.j35()V"},
			{api.Iface, "I0:j0()V"}, {api.Iface, "I69:j0()V"}, {api.Iface, "I69:j69()V"}, {api.Iface, "I35:i()V"}, {api.Iface, "I69:id()I"}, {api.Iface, "I69:i()V"},
			{api.Special, "I69:j0()V"}, {api.Special, "I69:id()I"}, {api.Special, "I0:j0()V"}, {api.Special, "Wide.j69()V"},
			{api.StaticInv, "D0.m()V"}, {api.Virtual, "[LWide;.id()I"}, {api.Virtual, "[LI69;.id()I"},
			{api.Iface, "Cloneable:id()I"},
		} {
			s := site(t, l, "Wide", c.kind, c.text, capacity)
			s.link(t)
			s.isResolved(t, true)
			for range 2 {
				for _, recv := range []string{"Below", "Wide", "D59", "D0", "Object", "Below", "Wide", "I69", "int", "no/Such", "[Wide", "[[int", "1", "D30", "D31"} {
					s.call(t, typ(recv))
				}
			}
		}
	}
}

// TestReadsOfStaticCalls: of StaticInv the bound holds for all receivers.
func TestReadsOfStaticCalls(t *testing.T) { // P19.4
	l := city(t)
	for _, text := range []string{"A.s()V", "I:s()V", "A.m()V", "N.s()V"} {
		s := site(t, l, "q/X", api.StaticInv, text, 1)
		s.link(t)
		for _, recv := range receivers(l.World()) {
			s.call(t, recv)
		}
	}
}

// TestReadsAreWhatIsLookedUp: which words are read is the program's own, but some are, and those that were read twice count once.
func TestReadsAreWhatIsLookedUp(t *testing.T) { // P19.4
	l := deepWorld(t, 20, 30)
	for _, c := range []struct {
		kind       int
		text, recv string
		capacity   int
		first      int // read by the first call
		again      int // and by one behind it
	}{
		// A place of the chain, and a slot.
		{api.Virtual, "D0.m()V", "Below", 0, 2, 2},
		{api.Virtual, "D19.m()V", "Below", 0, 2, 2},
		// A place of the chain, which is another class's.
		{api.Virtual, "D1.m()V", "D0", 0, 1, 1},
		// A place of the chain; all else was looked up when the reference was resolved.
		{api.Special, "D0.m()V", "Below", 0, 1, 1},
		// A place of the chain, one interface or thirty, and the entry.
		{api.Virtual, "Wide.j0()V", "Wide", 0, 3, 3},
		{api.Virtual, "Wide.j29()V", "Wide", 0, 32, 32},
		// The list of interfaces, so many of them, and the entry.
		{api.Iface, "I0:j0()V", "Wide", 0, 3, 3},
		{api.Iface, "I29:j0()V", "Wide", 0, 32, 32},
		{api.Iface, "I29:j29()V", "Wide", 0, 32, 32},
		{api.Iface, "I29:id()I", "Wide", 0, 32, 32},
		{api.Special, "I29:j0()V", "Wide", 0, 31, 31},
		// The list of interfaces, of which there are none.
		{api.Iface, "I29:j0()V", "D0", 0, 1, 1},
		// The keys of a set and a value beside these.
		{api.Virtual, "D0.m()V", "Below", 1, 4, 2},
		{api.Virtual, "D0.m()V", "Below", 2, 5, 3},
		{api.Virtual, "D0.m()V", "Below", 64, 5, 3},
		{api.Virtual, "D1.m()V", "D0", 64, 4, 3},
		{api.Iface, "I29:j0()V", "Wide", 64, 35, 3},
		// Arrays are not asked of the cache.
		{api.Virtual, "Object.id()I", "[int", 64, 2, 2},
		{api.Iface, "Cloneable:id()I", "[int", 64, 2, 2},
		{api.Virtual, "[LI29;.id()I", "[Wide", 64, 32, 32},
		// Nothing is read for those that are refused ahead of all looking up, and of a static method.
		{api.Virtual, "D0.m()V", "int", 64, 0, 0},
		{api.Virtual, "D0.m()V", "I0", 64, 0, 0},
		{api.Virtual, "no/Such.m()V", "D0", 64, 0, 0},
		{api.Virtual, "D0.none()V", "D0", 64, 0, 0},
		{api.StaticInv, "D0.m()V", "D0", 64, 0, 0},
	} {
		s := site(t, l, "Wide", c.kind, c.text, c.capacity)
		for _, want := range []int{c.first, c.again, c.again} {
			before := s.Reads()
			s.call(t, typ(c.recv))
			if rose := s.Reads() - before; rose != want {
				t.Errorf("%s: Call(%s) reads %d words at capacity %d, want %d", s.about(), c.recv, rose, c.capacity, want)
			}
		}
	}
}

func TestReadsOfLink(t *testing.T) { // P19.4, P19.8: it looks nothing up
	l := city(t)
	for _, c := range cityCases() {
		s := newSubject(t, l, 0, c.kind, ref(c.text), 2)
		s.link(t)
		if s.Reads() != 0 {
			t.Errorf("%s: Link() reads %d words", s.about(), s.Reads())
		}
	}
	if l.Builds() != 0 {
		t.Errorf("Link has built the tables of %d classes", l.Builds())
	}
}

func TestCalls(t *testing.T) { // P19.5: at both edges of the workers, with fewer and with more types than workers
	l := city(t)
	all := receivers(l.World()) // such as are refused among the others
	for _, c := range cityCases() {
		for at, workers := range []int{1, 2, 3, 15, 16} {
			s := newSubject(t, l, number(t, l, "A"), c.kind, ref(c.text), capacities[at])
			s.calls(t, nil, workers)
			s.calls(t, []api.Type{}, workers)
			s.calls(t, all[:1], workers)
			s.calls(t, []api.Type{typ(c.recv), typ("A"), typ("int"), typ(c.recv), typ("N")}, workers)
			s.calls(t, all, workers)
		}
	}
}

func TestCallsOfManyTypes(t *testing.T) { // P19.5: as many as may be asked, and one more
	l := city(t)
	all := receivers(l.World())
	for _, kind := range allKinds {
		for at, text := range []string{"A.m()V", "I:m()V", "A.s()V", "I:s()V"} {
			s := site(t, l, "A", kind, text, capacities[at])
			list := slices.Repeat(all, 4100/len(all)+1)
			for _, workers := range []int{1, 7, 16} {
				s.calls(t, list[:4095], workers)
				s.calls(t, list[:4096], workers)
				s.calls(t, list[:4097], workers)
				s.calls(t, list[:1], workers)
			}
		}
	}
}

func TestCallsErrors(t *testing.T) { // P19.5, R2, R5
	l := city(t)
	s := site(t, l, "A", api.Virtual, "A.m()V", 2)
	fine, long := []api.Type{typ("A")}, slices.Repeat([]api.Type{typ("A")}, 4097)
	for _, workers := range []int{0, 17, -1, math.MinInt, math.MaxInt, 1<<32 + 1, -1<<32 + 1} {
		for _, list := range [][]api.Type{nil, fine, long} { // the workers ahead of the length
			if m, errs, e := s.Calls(list, workers); len(m) != 0 || len(errs) != 0 || e != api.ErrArg {
				t.Errorf("Calls(%d types, %d) = %v, %v, %d", len(list), workers, m, errs, e)
			}
		}
	}
	for _, workers := range []int{1, 16} {
		if m, errs, e := s.Calls(long, workers); len(m) != 0 || len(errs) != 0 || e != api.ErrLarge {
			t.Errorf("Calls(%d types, %d) = %v, %v, %d", len(long), workers, m, errs, e)
		}
	}
	s.isResolved(t, false)
	s.hitsAre(t, 0, 0)
	if s.Reads() != 0 || l.Builds() != 0 {
		t.Errorf("calls that are refused have read %d words, and had %d classes built", s.Reads(), l.Builds())
	}
	if m, errs, e := s.Calls(fine, 1); len(m) != 1 || m[0] != find(t, l, "A.m()V") || errs[0] != api.OK || e != api.OK {
		t.Errorf("Calls = %v, %v, %d", m, errs, e)
	}
}

func TestCallsWhileClassesArrive(t *testing.T) { // P19.5, P0.3
	l := linkerOf(t)
	var list []api.Type
	for n := range 8 {
		list = append(list, typ(fmt.Sprint("D", n)), typ(fmt.Sprint("[D", n)), typ("Object"))
	}
	s := site(t, l, "Object", api.Virtual, "D2.m()V", 3)
	super := "Object"
	for n := range 8 {
		s.calls(t, list, 4)
		define(t, l.World(), class(fmt.Sprint("D", n), super, method("m", normal)))
		super = fmt.Sprint("D", n)
		s.isResolved(t, n > 2)
	}
	s.calls(t, list, 4)
}

func TestHits(t *testing.T) { // P19.6: what the cache's Hits answers
	l := city(t)
	s := site(t, l, "q/X", api.Virtual, "A.m()V", 2)
	s.hitsAre(t, 0, 0)
	s.runs(t, "A", "A.m()V", api.OK)
	s.hitsAre(t, 0, 1)
	s.runs(t, "A", "A.m()V", api.OK)
	s.hitsAre(t, 1, 1)
	s.runs(t, "B", "B.m()V", api.OK)
	s.runs(t, "A", "A.m()V", api.OK)
	s.runs(t, "B", "B.m()V", api.OK)
	s.hitsAre(t, 3, 2)
	s.runs(t, "C", "C.m()V", api.OK) // drives A out
	s.runs(t, "A", "A.m()V", api.OK)
	s.hitsAre(t, 3, 4)
	s.runs(t, "Object", "", api.Incompatible) // an error is kept like a method
	s.runs(t, "Object", "", api.Incompatible)
	s.hitsAre(t, 4, 5)
}

func TestHitsOfTheCapacities(t *testing.T) { // P19.6
	l := city(t)
	list := []string{"A", "A", "B", "B", "A", "C", "A", "N", "C", "B"}
	for capacity, want := range map[int][2]int{0: {0, 10}, 1: {2, 8}, 64: {6, 4}} {
		s := site(t, l, "q/X", api.Virtual, "A.m()V", capacity)
		for _, recv := range list {
			s.call(t, typ(recv))
		}
		s.hitsAre(t, want[0], want[1])
	}
}

func TestHitsOfCallsThatAskNoCache(t *testing.T) { // P19.6: those that are refused ahead of it, static ones, arrays, Link and Calls
	l := city(t)
	for _, c := range []struct {
		kind       int
		text, recv string
	}{{api.Virtual, "A.m()V", "int"}, {api.Virtual, "A.m()V", "no/Such"}, {api.Virtual, "A.m()V", "I"}, {api.Virtual, "A.none()V", "A"}, {api.Virtual, "A.s()V", "A"}, {api.Virtual, "A:m()V", "A"}, {api.StaticInv, "A.s()V", "A"}, {api.Virtual, "Object.id()I", "[A"}} {
		s := site(t, l, "q/X", c.kind, c.text, 64)
		for range 2 {
			s.call(t, typ(c.recv))
			s.link(t)
			s.calls(t, []api.Type{typ("A"), typ("A"), typ("B")}, 2)
		}
		s.hitsAre(t, 0, 0)
	}
}

func TestLink(t *testing.T) { // P19.8: also where a call for some receiver would be refused
	l := city(t)
	for _, c := range []struct {
		kind int
		from string
		text string
		want api.Errno
	}{
		{api.Virtual, "q/X", "A.m()V", api.OK},
		{api.Virtual, "q/X", "A.z()V", api.OK},
		{api.Virtual, "q/X", "U.two()V", api.OK},
		{api.Virtual, "q/X", "N.d()V", api.OK},
		{api.Virtual, "q/X", "[I.id()I", api.OK},
		{api.Virtual, "A", "A.p()V", api.OK},
		{api.Iface, "q/X", "I:a()V", api.OK},
		{api.Iface, "q/X", "I:two()V", api.OK},
		{api.Iface, "q/X", "Cloneable:id()I", api.OK},
		{api.Special, "q/X", "B.<init>()V", api.OK},
		{api.Special, "q/X", "K:<init>()V", api.OK},
		{api.Special, "C", "A.z()V", api.OK},
		{api.Special, "q/X", "A.m()V", api.OK},
		{api.StaticInv, "q/X", "A.s()V", api.OK},
		{api.StaticInv, "q/X", "I:s()V", api.OK},
		{api.Virtual, "q/X", "A:m()V", api.Malformed},
		{api.Virtual, "q/X", "A.<init>()V", api.Malformed},
		{api.Iface, "q/X", "I.m()V", api.Malformed},
		{api.Iface, "q/X", "I:<init>()V", api.Malformed},
		{api.StaticInv, "q/X", "A.<init>()V", api.Malformed},
		{api.Virtual, "q/X", "no/Such.m()V", api.NoClassDef},
		{api.Iface, "q/X", "no/Such:m()V", api.NoClassDef},
		{api.Special, "q/X", "[Lno/Such;.id()I", api.NoClassDef},
		{api.Virtual, "q/X", "A.none()V", api.NoSuchMethod},
		{api.StaticInv, "q/X", "K:s()V", api.NoSuchMethod},
		{api.Special, "q/X", "A.<init>(II)V", api.NoSuchMethod},
		{api.Virtual, "q/X", "A.p()V", api.IllegalAccess},
		{api.Virtual, "A", "q/Shut.m()V", api.IllegalAccess},
		{api.Special, "q/X", "A.<init>(I)V", api.IllegalAccess},
		{api.Virtual, "q/X", "I.m()V", api.Incompatible},
		{api.Iface, "q/X", "A:m()V", api.Incompatible},
		{api.Virtual, "q/X", "A.s()V", api.Incompatible},
		{api.Special, "q/X", "A.s()V", api.Incompatible},
		{api.Iface, "q/X", "I:s()V", api.Incompatible},
		{api.Iface, "I", "I:p()V", api.Incompatible},
		{api.Special, "I", "I:p()V", api.OK},
		{api.StaticInv, "q/X", "A.m()V", api.Incompatible},
		{api.StaticInv, "q/X", "A.z()V", api.Incompatible},
		// Of two the one that is looked for first.
		{api.Virtual, "q/X", "no/Such.<init>()V", api.Malformed},
		{api.Virtual, "q/X", "no/Such:m()V", api.Malformed},
		{api.Iface, "q/X", "A.s()V", api.Malformed},
		{api.StaticInv, "A", "q/Shut.m()V", api.IllegalAccess},
	} {
		for _, capacity := range capacities {
			s := site(t, l, c.from, c.kind, c.text, capacity)
			for range 2 {
				s.links(t, c.want)
			}
			s.call(t, typ("A")) // whatever a receiver meets turns nothing
			s.call(t, typ("int"))
			s.call(t, typ("N"))
			s.links(t, c.want)
		}
	}
}

func TestLinkOfEveryReference(t *testing.T) { // P19.8: of all kinds, from all classes; then Call, as P19.2 asks
	l := city(t)
	for _, c := range cityCases() {
		for d := range l.World().Len() {
			for _, kind := range allKinds {
				s := newSubject(t, l, d, kind, ref(c.text), 1)
				s.link(t)
				s.call(t, typ(c.recv))
				s.link(t)
			}
		}
	}
}

func TestLinkOfAClassThatArrives(t *testing.T) { // P19.8
	for _, capacity := range capacities {
		l := city(t)
		ok, none, shutOut, misfit := site(t, l, "A", api.Virtual, "Late.m()V", capacity), site(t, l, "A", api.Virtual, "Late.none()V", capacity), site(t, l, "A", api.Virtual, "Late.p()V", capacity), site(t, l, "A", api.Virtual, "Late.s()V", capacity)
		for _, s := range []subject{ok, none, shutOut, misfit} {
			s.links(t, api.NoClassDef)
			s.runs(t, "A", "", api.NoClassDef)
			s.links(t, api.NoClassDef)
		}
		define(t, l.World(), class("Late", "B", method("p", api.Private), method("s", static)))
		ok.links(t, api.OK)
		ok.runs(t, "Late", "B.m()V", api.OK)
		none.links(t, api.NoSuchMethod)
		shutOut.links(t, api.IllegalAccess)
		misfit.links(t, api.Incompatible)
	}
}

func TestNilSite(t *testing.T) { // R6; P19.2 to P19.8: and a Site that New did not make
	for _, s := range []*Site{nil, {}} {
		for _, recv := range append(receivers(hier.New()), typ("A")) {
			if m, e := s.Call(recv); m != (api.MethodID{}) || e != api.ErrArg {
				t.Errorf("Call(%s) = %v, %d", show(recv), m, e)
			}
		}
		for _, workers := range []int{-1, 0, 1, 16, 17} {
			for _, n := range []int{0, 1, 4096, 4097} {
				if m, errs, e := s.Calls(make([]api.Type, n), workers); len(m) != 0 || len(errs) != 0 || e != api.ErrArg {
					t.Errorf("Calls(%d types, %d) = %v, %v, %d", n, workers, m, errs, e)
				}
			}
		}
		hits, misses := s.Hits()
		if e := s.Link(); e != api.ErrArg || s.Resolved() || s.Reads() != 0 || hits != 0 || misses != 0 {
			t.Errorf("Link() = %d, Resolved() = %v, Reads() = %d, Hits() = %d, %d", e, s.Resolved(), s.Reads(), hits, misses)
		}
	}
}

func TestOutcomesAsNumbers(t *testing.T) { // P19.2: what a cache keeps is what was put there, up to the greatest numbers of classes and methods
	for class := range api.MaxClasses {
		for index := range api.MaxMethods {
			o := outcome{method: api.MethodID{Class: class, Index: index}}
			if got := outcomeOf(o.number()); got != o {
				t.Fatalf("%v comes back as %v", o, got)
			}
		}
	}
	for err := api.ErrForm; err <= api.OutFull; err++ {
		if got := outcomeOf(refused(err).number()); got != refused(err) {
			t.Fatalf("error %d comes back as %v", err, got)
		}
	}
}
