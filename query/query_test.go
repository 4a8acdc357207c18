package query

import (
	"fmt"
	"math"
	"slices"
	"strings"
	"testing"

	"arbiter/api"
	"arbiter/hier"
	"arbiter/link"
)

// The flags of methods, as they are written most often.
const (
	normal   = api.Public
	abstract = api.Public | api.AbstractFl
	static   = api.Public | api.Static
)

// oddNumbers are numbers of no class of any world, and of no method of any class.
var oddNumbers = []int{-1, math.MinInt, math.MaxInt, -2, api.MaxClasses, api.MaxClasses + 1, 1 << 32, -1 << 32, 1<<32 + 1}

// method has the descriptor ()V, unless its name brings one.
func method(name string, flags int) api.Method {
	m := api.Method{Name: name, Desc: "()V", Flags: flags}
	if at := strings.Index(name, "("); at >= 0 {
		m.Name, m.Desc = name[:at], name[at:]
	}
	if flags&api.AbstractFl == 0 {
		m.Locals, m.Code = 40, []api.Inst{{Op: api.Return}}
	}
	return m
}

func class(name, super string, methods ...api.Method) api.Class {
	return api.Class{Name: name, Super: super, Flags: api.Public | api.Super | api.AbstractFl, Methods: methods}
}

func iface(name string, methods ...api.Method) api.Class {
	return api.Class{Name: name, Super: "Object", Flags: api.Public | api.Interface | api.AbstractFl, Methods: methods}
}

// of names interfaces, shut takes Public away, old takes Super away, by takes another Loader.
func of(c api.Class, ifaces ...string) api.Class {
	c.Ifaces = ifaces
	return c
}

func shut(c api.Class) api.Class {
	c.Flags &^= api.Public
	return c
}

func old(c api.Class) api.Class {
	c.Flags &^= api.Super
	return c
}

func by(loader int, c api.Class) api.Class {
	c.Loader = loader
	return c
}

// show cuts what it shows, since texts may be long.
func show(things ...any) string {
	text := fmt.Sprintf("%#v", things)
	return text[:min(len(text), 300)]
}

func define(t testing.TB, w *hier.World, c api.Class) int {
	t.Helper()
	id, e := w.Define(c)
	if e != api.OK {
		t.Fatalf("Define(%s): %d", show(c), e)
	}
	return id
}

func worldOf(t testing.TB, classes ...api.Class) *hier.World {
	t.Helper()
	w := hier.New()
	for _, c := range classes {
		define(t, w, c)
	}
	return w
}

func newLinker(t testing.TB, w *hier.World) *link.Linker {
	t.Helper()
	l, e := link.New(w)
	if e != api.OK {
		t.Fatalf("link.New: %d", e)
	}
	return l
}

// linkerOf links a world of these classes.
func linkerOf(t testing.TB, classes ...api.Class) *link.Linker {
	t.Helper()
	return newLinker(t, worldOf(t, classes...))
}

// The numbers of the town's classes, behind the three of every world.
const (
	townI = 3 + iota
	townJ
	townK
	townA
	townB
	townC
	townU
	townX
	townY
	townZ
	townShut
	townE
	townF
	townSize
)

// townClasses have methods of all flags, of which some hide, override or meet others.
func townClasses() []api.Class {
	return []api.Class{
		iface("I", method("m", abstract), method("d", normal), method("s", static), method("p", api.Private)),
		of(iface("J", method("d", normal), method("t", normal)), "I"),
		iface("K", method("t", normal)),
		class("A", "Object", method("<init>", normal), method("m", normal), method("s", static), method("p", api.Private), method("x", 0), method("v", api.Protected), method("z", abstract)),
		of(class("B", "A", method("<init>(I)V", api.Private), method("m", normal), method("id()I", normal), method("p", normal)), "I"),
		of(class("C", "B", method("x", normal)), "J", "K"),
		of(class("U", "Object"), "I"),
		class("p/X", "Object", method("m", 0), method("n(I)I", 0)),
		class("q/Y", "p/X", method("m", normal)),
		class("p/Z", "q/Y", method("m", normal), method("n([[I[LA;)LB;", normal)),
		shut(class("q/Shut", "Object", method("s", static), method("m", normal))),
		iface("E"),
		of(class("F", "Object"), "E", "Serializable"),
	}
}

func town(t testing.TB) *link.Linker {
	t.Helper()
	l := linkerOf(t, townClasses()...)
	if n := l.World().Len(); n != townSize {
		t.Fatalf("%d classes", n)
	}
	return l
}

func id(class, index int) api.MethodID {
	return api.MethodID{Class: class, Index: index}
}

func nameIs(t *testing.T, w *hier.World, m api.MethodID, want string) {
	t.Helper()
	if got, e := Name(w, m); got != want || e != api.OK {
		t.Errorf("Name(%v) = %s, %d, want %s", m, show(got), e, show(want))
	}
}

func nameRefused(t *testing.T, w *hier.World, m api.MethodID, want api.Errno) {
	t.Helper()
	if got, e := Name(w, m); got != "" || e != want {
		t.Errorf("Name(%v) = %s, %d, want %d", m, show(got), e, want)
	}
}

func findIs(t *testing.T, w *hier.World, text string, want api.MethodID) {
	t.Helper()
	if got, e := Find(w, text); got != want || e != api.OK {
		t.Errorf("Find(%s) = %v, %d, want %v", show(text), got, e, want)
	}
}

func findRefused(t *testing.T, w *hier.World, text string, want api.Errno) {
	t.Helper()
	if got, e := Find(w, text); got != (api.MethodID{}) || e != want {
		t.Errorf("Find(%s) = %v, %d, want %d", show(text), got, e, want)
	}
}

// says asks a line that is answered.
func says(t *testing.T, l *link.Linker, line string, want ...string) {
	t.Helper()
	if got, e := Ask(l, line); !slices.Equal(got, want) || e != api.OK {
		t.Errorf("Ask(%s) = %s, %d, want %s", show(line), show(got), e, show(want))
	}
}

func refuses(t *testing.T, l *link.Linker, line string, want api.Errno) {
	t.Helper()
	if got, e := Ask(l, line); len(got) != 0 || e != want {
		t.Errorf("Ask(%s) = %s, %d, want %d", show(line), show(got), e, want)
	}
}

// townMethods are the names of all methods of the town, by their classes.
func townMethods() map[int][]string {
	return map[int][]string{
		0:        {"Object.<init>()V", "Object.id()I", "Object.kin()LObject;"},
		townI:    {"I:m()V", "I:d()V", "I:s()V", "I:p()V"},
		townJ:    {"J:d()V", "J:t()V"},
		townK:    {"K:t()V"},
		townA:    {"A.<init>()V", "A.m()V", "A.s()V", "A.p()V", "A.x()V", "A.v()V", "A.z()V"},
		townB:    {"B.<init>(I)V", "B.m()V", "B.id()I", "B.p()V"},
		townC:    {"C.x()V"},
		townX:    {"p/X.m()V", "p/X.n(I)I"},
		townY:    {"q/Y.m()V"},
		townZ:    {"p/Z.m()V", "p/Z.n([[I[LA;)LB;"},
		townShut: {"q/Shut.s()V", "q/Shut.m()V"},
	}
}

func TestName(t *testing.T) { // P23.1
	w := town(t).World()
	all := townMethods()
	for c := range townSize {
		for index, want := range all[c] {
			nameIs(t, w, id(c, index), want)
		}
	}
	// Of a class and of an interface the numbers of methods at both edges.
	nameIs(t, w, id(townI, 0), "I:m()V")
	nameIs(t, w, id(townI, 3), "I:p()V")
	nameIs(t, w, id(townZ, 1), "p/Z.n([[I[LA;)LB;")
}

func TestNameOfNoMethod(t *testing.T) { // P23.1
	w := town(t).World()
	all := townMethods()
	for c := range townSize {
		nameRefused(t, w, id(c, -1), api.ErrRange)
		nameRefused(t, w, id(c, len(all[c])), api.ErrRange)
		for _, odd := range oddNumbers {
			nameRefused(t, w, id(c, odd), api.ErrRange)
			nameRefused(t, w, id(odd, c), api.ErrRange)
		}
	}
	nameRefused(t, w, id(townSize, 0), api.ErrRange)
	nameRefused(t, w, id(-1, 0), api.ErrRange)
	for _, a := range oddNumbers {
		for _, b := range oddNumbers {
			nameRefused(t, w, id(a, b), api.ErrRange)
		}
	}
	nameRefused(t, hier.New(), id(3, 0), api.ErrRange)
	nameRefused(t, hier.New(), id(1, 0), api.ErrRange)
	nameRefused(t, hier.New(), id(0, 3), api.ErrRange)
}

// longDesc takes 20 ints or arrays, and is exactly so many bytes long.
func longDesc(size int) string {
	var b strings.Builder
	b.WriteString("(")
	left := size - len("()V")
	for args := api.MaxArgs; args > 0; args-- {
		length := min(left-(args-1), api.MaxDims+1)
		b.WriteString(strings.Repeat("[", length-1) + "I")
		left -= length
	}
	return b.String() + ")V"
}

func TestLongestNames(t *testing.T) { // P23.1, P23.2
	long := strings.Repeat("p/", 29) + "AB"
	name := strings.Repeat("n", api.MaxName)
	desc := longDesc(api.MaxDesc)
	w := worldOf(t, class(long, "Object", method(name+desc, normal)), iface(long[:59]+"C", method(name+desc, normal)))
	for at, want := range []string{long + "." + name + desc, long[:59] + "C:" + name + desc} {
		if len(want) != 60+1+60+2000 {
			t.Fatalf("%d bytes", len(want))
		}
		nameIs(t, w, id(3+at, 0), want)
		findIs(t, w, want, id(3+at, 0))
	}
	findRefused(t, w, long+"."+name+longDesc(api.MaxDesc+1), api.ErrText)
	findRefused(t, w, long+"."+name+longDesc(api.MaxDesc-1), api.NoSuchMethod)
	findRefused(t, w, long+"B."+name+desc, api.ErrText)
	findRefused(t, w, long+"."+name+"n"+desc, api.ErrText)
	findRefused(t, w, long[:59]+"."+name+desc, api.NoClassDef)
}

func TestNilWorld(t *testing.T) { // P23.1, P23.2, R6
	for _, odd := range append(slices.Clone(oddNumbers), 0, 1, 2, 3) {
		nameRefused(t, nil, id(odd, 0), api.ErrArg)
		nameRefused(t, nil, id(0, odd), api.ErrArg)
	}
	for _, text := range []string{"Object.id()I", "Object:id()I", "No.m()V", "[I.id()I", "Object.none()V", "", "x", "\xff", strings.Repeat("x", 100000)} {
		findRefused(t, nil, text, api.ErrArg)
	}
}

// TestBareWorld: a World that is not from New has no class.
func TestBareWorld(t *testing.T) { // P0.1
	w := &hier.World{}
	nameRefused(t, w, id(0, 0), api.ErrRange)
	findRefused(t, w, "Object.id()I", api.NoClassDef)
	l := newLinker(t, w)
	refuses(t, l, "chain Object", api.NoClassDef)
	refuses(t, l, "overrides Object.id()I Object.id()I", api.NoClassDef)
	says(t, l, "below [I [I", "yes")
	says(t, l, "below [I LObject;", "error 20")
}

func TestFind(t *testing.T) { // P23.2
	w := town(t).World()
	for c, names := range townMethods() {
		for index, text := range names {
			findIs(t, w, text, id(c, index))
		}
	}
}

// noRefs are no texts of references.
func noRefs() []string {
	return []string{
		"A", "A.m", "A.m()", "A.m(V", "A.()V", ".m()V", "m()V", "()V", ".", ":", "A.", "A:", "A.m()v", "A.m()VV", "A.m(V)V", "A.m()V.", "A..m()V", "A::m()V", "A.:m()V", "A.m.m()V", "A;m()V", "A.1()V", "1.m()V", "A/.m()V", "/A.m()V", "p//A.m()V",
		"LA;.m()V", "[.id()I", "[A.m()V", "[V.m()V", "[LA.m()V", "[L;.m()V", "A[.m()V", "A[].m()V", "A.<clinit>()V", "A.<init>", "A.m(LA)V", "A.m(A)V", "A.m()LA", "A.m()[V", "A.m()\n", "\nA.m()V", "A.m()V\n", "A\x00.m()V", "\xff.m()V", "A.m()\xff",
		"A.m(" + strings.Repeat("I", api.MaxArgs+1) + ")V", "A.m(" + strings.Repeat("[", api.MaxDims+1) + "I)V", strings.Repeat("[", api.MaxDims+1) + "I.id()I", strings.Repeat("a", api.MaxName+1) + ".m()V", "A." + strings.Repeat("m", api.MaxName+1) + "()V",
	}
}

// arrayRefs are references whose class is an array type, be it loaded or not.
func arrayRefs() []string {
	return []string{"[I.id()I", "[I:id()I", "[[I.id()I", "[LObject;.id()I", "[LA;.m()V", "[LI;:m()V", "[LNo;.m()V", "[LNo;:m()V", "[I.none()V", strings.Repeat("[", api.MaxDims) + "I.id()I"}
}

func TestFindOfWrongTexts(t *testing.T) { // P23.2: its errors, each alone
	w := town(t).World()
	for _, text := range append(noRefs(), "", " ", "A .m()V", " A.m()V", "A.m()V ", "A. m()V", "A.m ()V", "A.m( )V", strings.Repeat("A", 100000)) {
		findRefused(t, w, text, api.ErrText)
	}
	for _, text := range arrayRefs() {
		findRefused(t, w, text, api.ErrText)
	}
	for _, text := range []string{"No.m()V", "a.m()V", "AA.m()V", "p/A.m()V", "X.m()V", "p.m()V", "p/q/X.m()V", "I/I.m()V", strings.Repeat("a", api.MaxName) + ".m()V"} {
		findRefused(t, w, text, api.NoClassDef)
	}
	for _, text := range []string{"Object:id()I", "A:m()V", "A:<init>()V", "q/Shut:m()V", "I.m()V", "I.s()V", "J.t()V"} {
		findRefused(t, w, text, api.Incompatible)
	}
	for _, text := range []string{"A.none()V", "A.m()I", "A.m(I)V", "A.M()V", "A.<init>(I)V", "A.n(I)I", "I:none()V", "I:<init>()V", "E:m()V", "Cloneable:m()V"} {
		findRefused(t, w, text, api.NoSuchMethod)
	}
	// A method of what is above the class is not its own.
	for _, text := range []string{"A.id()I", "A.kin()LObject;", "B.x()V", "B.s()V", "B.<init>()V", "B.d()V", "C.m()V", "C.t()V", "U.m()V", "J:m()V", "I:id()I", "E:id()I", "Cloneable:id()I", "p/Z.n(I)I"} {
		findRefused(t, w, text, api.NoSuchMethod)
	}
}

// TestFindOrderOfErrors: of two conditions that hold at once the one that is named first is answered.
func TestFindOrderOfErrors(t *testing.T) { // P23.2, R2
	w := town(t).World()
	findRefused(t, w, "[LNo;.m()V", api.ErrText)    // ahead of NoClassDef
	findRefused(t, w, "[I:id()I", api.ErrText)      // ahead of Incompatible
	findRefused(t, w, "[I.none()V", api.ErrText)    // ahead of NoSuchMethod
	findRefused(t, w, "No.m()", api.ErrText)        // a text that is none, ahead of NoClassDef
	findRefused(t, w, "A:m()", api.ErrText)         // and of Incompatible
	findRefused(t, w, "A.none()", api.ErrText)      // and of NoSuchMethod
	findRefused(t, w, "No:m()V", api.NoClassDef)    // what is not there is no interface, ahead of Incompatible
	findRefused(t, w, "No.none()V", api.NoClassDef) // ahead of NoSuchMethod
	findRefused(t, w, "A:none()V", api.Incompatible)
	findRefused(t, w, "I.none()V", api.Incompatible)
}
