package report

import (
	"fmt"
	"math"
	"slices"
	"strings"
	"testing"

	"arbiter/api"
	"arbiter/hier"
	"arbiter/link"
	"arbiter/shapes"
)

// method are the lines of a method of four locals and room for four operands; without instructions it has no code.
func method(head, instructions string) string {
	if instructions == "" {
		return "method " + head + "\nlocals 0\nstack 0\n"
	}
	return "method " + head + "\nlocals 4\nstack 4\n" + strings.ReplaceAll(instructions, ", ", "\n") + "\n"
}

// class is the text of a class.
func class(name, super string, methods ...string) string {
	return "class " + name + "\nsuper " + super + "\nflags public super\nloader 0\n" + strings.Join(methods, "") + "end\n"
}

func iface(name string, methods ...string) string {
	return flagged("public interface abstract", class(name, "Object", methods...))
}

// flagged turns the flags of a class, by its loader, of the interfaces that it names.
func flagged(words, text string) string {
	return strings.Replace(text, "\nflags public super\n", "\nflags "+words+"\n", 1)
}

func by(loader, text string) string {
	return strings.Replace(text, "\nloader 0\n", "\nloader "+loader+"\n", 1)
}

func of(text string, names ...string) string {
	for _, name := range names {
		text = strings.Replace(text, "\nflags ", "\niface "+name+"\nflags ", 1)
	}
	return text
}

// example is the class of chapter 5's example 1 with another name.
func example(name string) string {
	return "class " + name + "\nsuper Object\nflags public super\nloader 0\nmethod m ()I public\nlocals 1\nstack 1\niconst 5\nireturn\nend\n"
}

// five and six are methods that tell apart what runs.
func five(head string) string { return method(head, "iconst 5, ireturn") }
func six(head string) string  { return method(head, "iconst 6, ireturn") }

// lines ends each line by its byte.
func lines(all ...string) string {
	text := ""
	for _, line := range all {
		text += line + "\n"
	}
	return text
}

// show cuts what it shows, since texts may be long.
func show(text string) string {
	if len(text) > 400 {
		return fmt.Sprintf("%q .. %q (%d bytes)", text[:200], text[len(text)-200:], len(text))
	}
	return fmt.Sprintf("%q", text)
}

// worldOf defines classes one by one, without Load.
func worldOf(t testing.TB, classes ...api.Class) *hier.World {
	t.Helper()
	w := hier.New()
	for _, c := range classes {
		if _, e := w.Define(c); e != api.OK {
			t.Fatalf("Define(%+v): %d", c, e)
		}
	}
	return w
}

// loaded is the world of a text that Load takes.
func loaded(t testing.TB, text string) *hier.World {
	t.Helper()
	w, line, e := Load(text)
	if w == nil || line != 0 || e != api.OK {
		t.Fatalf("Load(%s) answered %d, %d", show(text), line, e)
	}
	return w
}

func linkerOf(t testing.TB, w *hier.World) *link.Linker {
	t.Helper()
	l, e := link.New(w)
	if e != api.OK {
		t.Fatalf("link.New: %d", e)
	}
	return l
}

// linked is a linker of the world of a text.
func linked(t testing.TB, text string) *link.Linker {
	t.Helper()
	return linkerOf(t, loaded(t, text))
}

// oddNumbers are numbers of no class of any world.
var oddNumbers = []int{-1, math.MinInt, math.MaxInt, -2, api.MaxClasses, api.MaxClasses + 1, 1 << 32, -1 << 32, 1<<32 + 1}

// everyInstruction has each of the forty, and of each kind of operand the edges.
var everyInstruction = []string{
	"iconst -2147483648", "iconst 2147483647", "iconst 0", "iload 0", "istore 39", "aload 39", "astore 0", "null", "iadd", "isub", "imul", "idiv",
	"goto 0", "ifeq 1", "ifne 49", "iflt 2", "ifcmpeq 3", "ifcmplt 4", "ifacmpeq 5", "ifnull 6", "pop", "dup", "swap", "new p/q/A", "newarray I", "newarray [[Lp/A;", "multinew 1 [I", "multinew 3 [[[LNo;", "arraylength",
	"iaload", "iastore", "aaload", "aastore", "checkcast No", "checkcast [I", "instanceof [[Lp/A;", "instanceof I",
	"invokevirtual No.m()I", "invokevirtual [I.id()I", "invokeinterface p/I:m(I[[Lp/A;)V", "invokespecial Object.<init>()V", "invokespecial p/I:m()[I", "invokestatic p/A.f([I)LObject;", "print", "printclass", "ireturn", "areturn", "return", "goto 49", "return",
}

// great are texts of classes with all that a class may have.
func great() []string {
	code := strings.Join(everyInstruction, "\n")
	return []string{
		iface("p/I"),
		flagged("interface abstract", by("9", of(iface("p/q/J", method("m ()V public abstract", ""), method("n (I)I private", "iload 1, ireturn"), method("f ()V public static", "return")), "Serializable", "p/I"))),
		"class p/q/A\nsuper Object\niface p/q/J\niface Cloneable\niface p/I\nflags\nloader 9\nmethod <init> ()V private\nlocals 40\nstack 40\n" + code + "\nmethod m ()V public final\nlocals 40\nstack 0\n" + code + "\nmethod m ()I\nlocals 40\nstack 1\n" + code + "\nend\n",
		flagged("public abstract", class("p/A", "Object", method("m ()V abstract", ""), method("n ()V protected abstract", ""), method("f ([[Lp/A;I)[I private static final", "null, areturn"))),
		flagged("public final super", class("p/B", "p/A", method("m ()V protected", "return"), method("n ()V public", "return"))),
		flagged("super abstract", class("$_", "p/A")), flagged("final", class("Final", "Object")), flagged("public", class("Public", "Object")), by("1", class("a/b/c/d/E1", "Public")),
	}
}

func TestWorld(t *testing.T) { // P25.1
	texts := great()
	code := func() []api.Inst { return []api.Inst{{Op: api.IConst, N: 5}, {Op: api.IReturn}} }
	one := api.Class{Name: "p/A", Super: "Object", Flags: api.Public | api.Super, Methods: []api.Method{{Name: "m", Desc: "()I", Flags: api.Public, Locals: 1, Stack: 1, Code: code()}}}
	two := api.Class{Name: "p/I", Super: "Object", Flags: api.Public | api.Interface | api.AbstractFl, Loader: 3, Methods: []api.Method{{Name: "m", Desc: "()I", Flags: api.Public | api.AbstractFl}}}
	three := api.Class{Name: "B", Super: "p/A", Ifaces: []string{"Serializable", "p/I"}, Methods: []api.Method{{Name: "n", Desc: "(I)V", Locals: 40, Stack: 40, Code: []api.Inst{{Op: api.Return}}}, {Name: "n", Desc: "()V", Flags: api.Final, Locals: 1, Code: []api.Inst{{Op: api.InvInterface, Ref: api.Ref{Iface: true, Class: "p/I", Name: "m", Desc: "()I"}}}}}}
	second := "class p/I\nsuper Object\nflags public interface abstract\nloader 3\nmethod m ()I public abstract\nlocals 0\nstack 0\nend\n"
	third := "class B\nsuper p/A\niface Serializable\niface p/I\nflags\nloader 0\nmethod n (I)V\nlocals 40\nstack 40\nreturn\nmethod n ()V final\nlocals 1\nstack 0\ninvokeinterface p/I:m()I\nend\n"
	for _, x := range []struct {
		w    *hier.World
		want string
	}{
		{hier.New(), ""}, {worldOf(t, one), example("p/A")}, {worldOf(t, two), second}, {worldOf(t, one, two, three), example("p/A") + second + third}, {worldOf(t, two, one, three), second + example("p/A") + third},
		{loaded(t, strings.Join(texts, "")), strings.Join(texts, "")},
	} {
		// Of one world it is the same each time.
		for range 2 {
			if got, e := World(x.w); got != x.want || e != api.OK {
				t.Errorf("World answered %s, %d, wanted %s", show(got), e, show(x.want))
			}
		}
	}
	if got, e := World(nil); got != "" || e != api.ErrArg {
		t.Errorf("World(nil) = %q, %d", got, e)
	}
}

// TestGreatClassesAreGreat: what the tests above take for all instructions is all of them.
func TestGreatClassesAreGreat(t *testing.T) {
	ops := map[int]bool{}
	for _, text := range great() {
		for _, m := range parsed(t, text).Methods {
			for _, i := range m.Code {
				ops[i.Op] = true
			}
		}
	}
	if len(ops) != api.PrintClass {
		t.Errorf("%d instructions", len(ops))
	}
}

// TestWorldAsClassesArrive: the text grows by theirs, and by nothing where one is refused.
func TestWorldAsClassesArrive(t *testing.T) { // P25.1
	w, want := hier.New(), ""
	for n := range api.MaxClasses - 3 {
		text := example(fmt.Sprint("p/A", n))
		arrived := parsed(t, text)
		if _, e := w.Define(arrived); e != api.OK {
			t.Fatal(e)
		}
		want += text
		w.Define(arrived)
		if got, e := World(w); got != want || e != api.OK {
			t.Fatalf("World answered %s, %d, wanted %s", show(got), e, show(want))
		}
	}
	if w.Len() != api.MaxClasses {
		t.Errorf("%d classes", w.Len())
	}
}

// TestWorldOfGreatClasses: a class whose text Parse would not take has one all the same.
func TestWorldOfGreatClasses(t *testing.T) { // P25.1, P25.2
	c := api.Class{Name: "p/Great", Super: "Object"}
	want := "class p/Great\nsuper Object\nflags\nloader 0\n"
	for n := range api.MaxMethods {
		m := api.Method{Name: fmt.Sprint("m", n), Desc: "()V", Locals: 1}
		want += "method m" + fmt.Sprint(n) + " ()V\nlocals 1\nstack 0\n"
		for range api.MaxCode {
			m.Code = append(m.Code, api.Inst{Op: api.ArrayLength})
			want += "arraylength\n"
		}
		c.Methods = append(c.Methods, m)
	}
	want += "end\n"
	w := worldOf(t, parsed(t, example("A")), c, parsed(t, example("B")))
	got, e := World(w)
	if got != example("A")+want+example("B") || e != api.OK || len(want) <= api.MaxShape {
		t.Errorf("World answered %s, %d", show(got), e)
	}
	loads(t, got, 11, api.ErrLarge)
}

// parsed is the class of a text, whose names need not be there.
func parsed(t testing.TB, text string) api.Class {
	t.Helper()
	c, line, e := shapes.Parse(text)
	if e != api.OK {
		t.Fatalf("%s: %d at %d", show(text), e, line)
	}
	return c
}

func TestExamples(t *testing.T) {
	// 1.
	if s, e := World(hier.New()); s != "" || e != api.OK {
		t.Errorf("%q, %d", s, e)
	}
	if w := loaded(t, ""); w.Len() != 3 || !Same(w, hier.New()) {
		t.Errorf("%d classes", w.Len())
	}
	if w := loaded(t, example("p/A")); w.Len() != 4 {
		t.Errorf("%d classes", w.Len())
	}
	// 2.
	loads(t, example("p/A")+example("p/A"), 11, api.Linkage)
	loads(t, "class A\n", 2, api.ErrText)
	loads(t, by("10", example("p/A")), 1, api.ErrForm)
	// 3.
	l := linkerOf(t, hier.New())
	if s, e := Tables(l, 1); s != lines("Cloneable", "Object", "error 23", "error 23", "primary Object Cloneable", "deep", "secondary") || e != api.OK {
		t.Errorf("%q, %d", s, e)
	}
	// 4.
	refs := []api.Ref{{Class: "Object", Name: "id", Desc: "()I"}, {Class: "No", Name: "m", Desc: "()V"}, {Class: "[I", Name: "kin", Desc: "()LObject;"}}
	for _, kind := range allKinds {
		if n, e := Differ(l, linkerOf(t, l.World()), kind, refs); n != 0 || e != api.OK {
			t.Errorf("Differ = %d, %d", n, e)
		}
	}
}

// townTables are the tables of a town's classes, written out by hand.
var townTables = []struct{ text, tables string }{
	{"", "Object\nObject.<init>()V\nObject.id()I\nObject.kin()LObject;\n0 Object.id()I Object.id()I\n1 Object.kin()LObject; Object.kin()LObject;\nObject.id()I Object.id()I Object.id()I\nprimary Object\ndeep\nsecondary\n"},
	{"", "Cloneable\nObject\nerror 23\nerror 23\nprimary Object Cloneable\ndeep\nsecondary\n"},
	{"", "Serializable\nObject\nerror 23\nerror 23\nprimary Object Serializable\ndeep\nsecondary\n"},
	{iface("p/I", five("m ()I public"), method("k ()I public abstract", "")), "p/I\nObject\np/I:m()I\np/I:k()I\nerror 23\nerror 23\nprimary Object p/I\ndeep\nsecondary\n"},
	{of(iface("J"), "p/I"), "J\nObject\np/I\nerror 23\nerror 23\nprimary Object J\ndeep\nsecondary p/I\n"},
	{of(class("A", "Object", five("n ()I"), five("f ()I static")), "J"), "A\nObject\np/I\nJ\nA.n()I\nA.f()I\n0 Object.id()I Object.id()I\n1 Object.kin()LObject; Object.kin()LObject;\n2 A.n()I A.n()I\n" +
		"Object.id()I Object.id()I Object.id()I\np/I:m()I p/I:m()I p/I:m()I\np/I:k()I error 24 error 24\nprimary Object A\ndeep\nsecondary p/I J\n"},
	{of(class("B", "A", five("n ()I"), five("m ()I public"), five("k ()I")), "Cloneable"), "B\nA\nObject\np/I\nJ\nCloneable\nB.n()I\nB.m()I\nB.k()I\n0 Object.id()I Object.id()I\n1 Object.kin()LObject; Object.kin()LObject;\n2 A.n()I B.n()I\n3 B.n()I B.n()I\n4 B.m()I B.m()I\n5 B.k()I B.k()I\n" +
		"Object.id()I Object.id()I Object.id()I\np/I:m()I B.m()I B.m()I\np/I:k()I error 22 B.k()I\nprimary Object A B\ndeep\nsecondary p/I J Cloneable\n"},
}

func townText() string {
	text := ""
	for _, x := range townTables {
		text += x.text
	}
	return text
}

func TestTables(t *testing.T) { // P25.3
	l := linked(t, townText())
	for range 2 {
		for id, x := range townTables {
			if got, e := Tables(l, id); got != x.tables || e != api.OK {
				t.Errorf("Tables(%d) = %q, %d, wanted %q", id, got, e, x.tables)
			}
		}
	}
	for _, id := range append(oddNumbers, len(townTables), len(townTables)+1) {
		if got, e := Tables(l, id); got != "" || e != api.ErrRange {
			t.Errorf("Tables(%d) = %q, %d", id, got, e)
		}
	}
	for _, id := range append(oddNumbers, 0, 1, 3) {
		if got, e := Tables(nil, id); got != "" || e != api.ErrArg {
			t.Errorf("Tables(nil, %d) = %q, %d", id, got, e)
		}
	}
}

// TestTablesOfLongLists: a long chain reaches the deep part of the display; each method has a line in two lists.
func TestTablesOfLongLists(t *testing.T) { // P25.3
	text, above, own, slots, chain, display := "", "Object", "", "0 Object.id()I Object.id()I\n1 Object.kin()LObject; Object.kin()LObject;\n", []string{"Object"}, "primary Object"
	for n := range 12 {
		name, mark := fmt.Sprint("C", n), ""
		text += class(name, above, five("m"+fmt.Sprint(n)+" ()I public"), five("z ()I private"))
		own = name + ".m" + fmt.Sprint(n) + "()I\n" + name + ".z()I\n"
		slots += fmt.Sprintf("%d %[2]s.m%[3]d()I %[2]s.m%[3]d()I\n", n+2, name, n)
		if n == 7 {
			mark = "\ndeep"
		}
		display += mark + " " + name
		above, chain = name, append(chain, name)
	}
	slices.Reverse(chain)
	want := lines(chain...) + own + slots + "Object.id()I Object.id()I Object.id()I\n" + display + "\nsecondary\n"
	if got, e := Tables(linked(t, text), 14); got != want || e != api.OK {
		t.Errorf("Tables = %q, %d, wanted %q", got, e, want)
	}
}

// TestTablesAsClassesArrive: a class has the same tables whatever arrives behind it, and is asked for when it has arrived.
func TestTablesAsClassesArrive(t *testing.T) { // P25.3, P0.3
	w := hier.New()
	l := linkerOf(t, w)
	for id, x := range townTables {
		if x.text != "" {
			if got, e := Tables(l, id); got != "" || e != api.ErrRange {
				t.Errorf("Tables(%d) = %q, %d", id, got, e)
			}
			w.Define(classIn(t, townText(), id))
		}
		for before := range id + 1 {
			if got, e := Tables(l, before); got != townTables[before].tables || e != api.OK {
				t.Errorf("Tables(%d) = %q, %d", before, got, e)
			}
		}
	}
}

// classIn is one class of the world of a text.
func classIn(t testing.TB, text string, id int) api.Class {
	t.Helper()
	c, e := loaded(t, text).Class(id)
	if e != api.OK {
		t.Fatal(e)
	}
	return c
}

// TestTablesOfLongNames: the longest names make questions that are no longer than a line may be.
func TestTablesOfLongNames(t *testing.T) { // P25.3
	name := strings.Repeat("p/", 29) + "AA"
	want := lines(name, "Object", "0 Object.id()I Object.id()I", "1 Object.kin()LObject; Object.kin()LObject;", "Object.id()I Object.id()I Object.id()I", "primary Object "+name, "deep", "secondary")
	if got, e := Tables(linked(t, class(name, "Object")), 3); got != want || e != api.OK || len(name) != api.MaxName {
		t.Errorf("Tables = %q, %d", got, e)
	}
}
