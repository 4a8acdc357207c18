package engine

import (
	"fmt"
	"strings"
	"testing"

	"arbiter/api"
	"arbiter/site"
)

// cityClasses have methods of each kind, in classes and interfaces that others see from above, below and beside.
func cityClasses(t testing.TB) []api.Class {
	answers := func(text string, flags, n int) api.Method {
		return method(t, text, flags, fmt.Sprintf("iconst %d, ireturn", n))
	}
	return []api.Class{
		class("A", "Object",
			answers("m()I", normal, 1), answers("s()I", static, 11), answers("p()I", api.Private, 12), answers("ps()I", api.Private|api.Static, 13), method(t, "z()I", abstract, ""), method(t, "<init>()V", normal, "iconst 14, print, return"),
			method(t, "ownP()I", normal, "aload 0, invokespecial A.p()I, ireturn"), method(t, "ownPs()I", static, "invokestatic A.ps()I, ireturn"),
			method(t, "take(LA;)V", normal, "return"), method(t, "mix(ILA;[LI;)V", normal, "iload 1, print, return"), method(t, "far(Lno/Such;)V", normal, "return"),
			sized(method(t, "order(II[I)V", normal, "iload 1, print, iload 2, print, aload 3, arraylength, print, aload 0, printclass, iload 4, print, return"), 5, 1)),
		class("B", "A", answers("m()I", normal, 2)),
		class("C", "B", answers("m()I", normal, 3), method(t, "up()I", normal, "aload 0, invokespecial A.m()I, ireturn"), method(t, "own()I", normal, "aload 0, invokespecial C.m()I, ireturn")),
		flagged(class("O", "B", answers("m()I", normal, 4), method(t, "up()I", normal, "aload 0, invokespecial A.m()I, ireturn")), api.Public),
		iface("I", method(t, "a()I", abstract, ""), answers("d()I", normal, 21), answers("s()I", static, 22), answers("p()I", api.Private, 23), answers("two()I", normal, 24), method(t, "take(LI;)V", normal, "return")),
		iface("J", answers("two()I", normal, 25)),
		of(class("N", "Object", answers("a()I", normal, 31), method(t, "super()I", normal, "aload 0, invokespecial I:d()I, ireturn")), "I"),
		of(class("U", "Object"), "I", "J"),
		of(class("T", "Object", answers("a()I", api.Protected, 32)), "I"),
		class("q/X", "Object", method(t, "s()I", api.Static, "iconst 41, ireturn"), method(t, "shut()LObject;", static, "new q/Shut, areturn")),
		flagged(class("q/Shut", "A", answers("m()I", normal, 42)), api.Super),
	}
}

// mainOf is a class whose method f has this code, beside some others.
func mainOf(t testing.TB, lines string, others ...api.Method) api.Class {
	return class("Main", "Object", append(others, method(t, "f()V", static, lines))...)
}

// runsCity runs each piece in the city, with all capacities, twice on each engine.
func runsCity(t *testing.T, pieces []piece, others ...api.Method) {
	t.Helper()
	for _, p := range pieces {
		for _, capacity := range capacities {
			s := newSubject(t, linkerOf(t, append(cityClasses(t), mainOf(t, p.code, others...))...), capacity)
			s.says(t, "Main.f()V", nil, plenty, p.want)
			s.says(t, "Main.f()V", nil, plenty, p.want)
		}
	}
}

func TestInvokeVirtual(t *testing.T) { // P22.2: what is selected, and each of its errors
	runsCity(t, []piece{
		{"new A, invokevirtual A.m()I, print, return", "1 returned spent 6"},
		{"new B, invokevirtual A.m()I, print, return", "2 returned spent 6"},
		{"new C, invokevirtual B.m()I, print, return", "3 returned spent 6"},
		{"invokestatic q/X.shut()LObject;, checkcast A, invokevirtual A.m()I, print, return", "42 returned spent 9"},
		{"new C, invokevirtual C.ownP()I, print, return", "12 returned spent 9"},
		{"new N, invokevirtual N.d()I, print, return", "21 returned spent 6"},
		{"new A, invokevirtual A.id()I, print, return", "7 returned spent 6"},
		{"new B, invokevirtual Object.kin()LObject;, printclass, return", "B returned spent 6"},
		{"iconst 1, newarray I, invokevirtual Object.id()I, print, return", "7 returned spent 7"},
		{"iconst 1, newarray LA;, invokevirtual [LA;.id()I, print, return", "7 returned spent 7"},
		{"iconst 1, newarray LB;, invokevirtual [LA;.kin()LObject;, printclass, return", "[LB; returned spent 7"},
		// The errors of linking.
		{"new A, invokevirtual A:m()I, return", "Malformed spent 2"},
		{"new A, invokevirtual A.<init>()V, return", "Malformed spent 2"},
		{"new A, invokevirtual no/Such.m()I, return", "NoClassDef spent 2"},
		{"new A, invokevirtual A.none()I, return", "NoSuchMethod spent 2"},
		{"new A, invokevirtual A.m()V, return", "NoSuchMethod spent 2"},
		{"new A, invokevirtual A.p()I, return", "IllegalAccess spent 2"},
		{"new A, invokevirtual q/Shut.m()I, return", "IllegalAccess spent 2"},
		{"new A, invokevirtual A.s()I, return", "Incompatible spent 2"},
		{"new N, invokevirtual I.d()I, return", "Incompatible spent 2"},
		// Those of the selection.
		{"new A, invokevirtual A.z()I, return", "Abstract spent 2"},
		{"new U, invokevirtual U.a()I, return", "Abstract spent 2"},
		{"new U, invokevirtual U.two()I, return", "Incompatible spent 2"},
		{"new Object, invokevirtual A.m()I, return", "Incompatible spent 2"},
		{"new A, invokevirtual B.m()I, return", "Incompatible spent 2"},
		{"iconst 0, newarray I, invokevirtual A.m()I, return", "Incompatible spent 3"},
		{"iconst 0, newarray I, invokevirtual [LA;.id()I, return", "Incompatible spent 3"},
	})
}

func TestInvokeInterface(t *testing.T) { // P22.2: what is selected, and each of its errors
	runsCity(t, []piece{
		{"new N, invokeinterface I:a()I, print, return", "31 returned spent 6"},
		{"new N, invokeinterface I:d()I, print, return", "21 returned spent 6"},
		{"new N, invokeinterface I:id()I, print, return", "7 returned spent 6"},
		{"new N, new U, invokeinterface I:take(LI;)V, return", "returned spent 5"},
		{"iconst 0, newarray I, invokeinterface Cloneable:id()I, print, return", "7 returned spent 7"},
		{"new N, invokeinterface I.d()I, return", "Malformed spent 2"},
		{"new N, invokeinterface I:<init>()V, return", "Malformed spent 2"},
		{"new N, invokeinterface no/Such:d()I, return", "NoClassDef spent 2"},
		{"new N, invokeinterface I:none()I, return", "NoSuchMethod spent 2"},
		{"new N, invokeinterface I:kin()LObject;, return", "NoSuchMethod spent 2"},
		{"new N, invokeinterface I:p()I, return", "IllegalAccess spent 2"},
		{"new N, invokeinterface I:s()I, return", "Incompatible spent 2"},
		{"new A, invokeinterface A:m()I, return", "Incompatible spent 2"},
		{"new U, invokeinterface I:a()I, return", "Abstract spent 2"},
		{"new T, invokeinterface I:a()I, return", "IllegalAccess spent 2"},
		{"new U, invokeinterface I:two()I, return", "Incompatible spent 2"},
		{"new A, invokeinterface I:d()I, return", "Incompatible spent 2"},
	})
}

func TestInvokeSpecial(t *testing.T) { // P22.2: what is selected, and each of its errors
	runsCity(t, []piece{
		{"new A, invokespecial A.<init>()V, return", "14 returned spent 6"},
		{"new B, invokespecial A.<init>()V, return", "14 returned spent 6"},
		{"new C, invokevirtual C.up()I, print, return", "2 returned spent 9"},
		{"new C, invokevirtual C.own()I, print, return", "3 returned spent 9"},
		{"new O, invokevirtual O.up()I, print, return", "1 returned spent 9"},
		{"new C, invokespecial A.m()I, print, return", "1 returned spent 6"},
		{"new N, invokevirtual N.super()I, print, return", "21 returned spent 9"},
		{"new N, invokespecial I:two()I, print, return", "24 returned spent 6"},
		{"new A, invokespecial A.ownP()I, print, return", "12 returned spent 9"},
		{"iconst 0, newarray I, invokespecial [I.<init>()V, return", "returned spent 5"},
		{"new A, invokespecial no/Such.<init>()V, return", "NoClassDef spent 2"},
		{"new A, invokespecial A.none()V, return", "NoSuchMethod spent 2"},
		{"new A, invokespecial A.p()I, return", "IllegalAccess spent 2"},
		{"new A, invokespecial A.s()I, return", "Incompatible spent 2"},
		{"new A, invokespecial A:m()I, return", "Incompatible spent 2"},
		{"new B, invokespecial B.<init>()V, return", "NoSuchMethod spent 2"},
		{"new A, invokespecial A.z()I, return", "Abstract spent 2"},
		{"new Object, invokespecial A.m()I, return", "Incompatible spent 2"},
		{"new N, invokespecial I:a()I, return", "Abstract spent 2"},
	})
}

func TestInvokeStatic(t *testing.T) { // P22.2: what is invoked, and each of its errors
	runsCity(t, []piece{
		{"invokestatic A.s()I, print, return", "11 returned spent 5"},
		{"invokestatic C.s()I, print, return", "11 returned spent 5"},
		{"invokestatic A.ownPs()I, print, return", "13 returned spent 7"},
		{"invokestatic I:s()I, print, return", "22 returned spent 5"},
		{"invokestatic A.<init>()V, return", "Malformed spent 1"},
		{"invokestatic no/Such.s()I, return", "NoClassDef spent 1"},
		{"invokestatic A.none()I, return", "NoSuchMethod spent 1"},
		{"invokestatic N.s()I, return", "NoSuchMethod spent 1"},
		{"invokestatic A.ps()I, return", "IllegalAccess spent 1"},
		{"invokestatic q/X.s()I, return", "IllegalAccess spent 1"},
		{"invokestatic I.s()I, return", "Incompatible spent 1"},
		{"invokestatic A:s()I, return", "Incompatible spent 1"},
		{"invokestatic A.m()I, return", "Incompatible spent 1"},
		{"invokestatic [LA;.s()I, return", "NoSuchMethod spent 1"},
	})
}

func TestOrderOfErrors(t *testing.T) { // P22.2: of an invocation: linking, null, selection, arguments, room
	runsCity(t, []piece{
		// Linking is ahead of null.
		{"null, invokevirtual A:m()I, return", "Malformed spent 2"},
		{"null, invokevirtual no/Such.m()I, return", "NoClassDef spent 2"},
		{"null, invokevirtual A.none()I, return", "NoSuchMethod spent 2"},
		{"null, invokevirtual A.p()I, return", "IllegalAccess spent 2"},
		{"null, invokevirtual A.s()I, return", "Incompatible spent 2"},
		{"null, invokevirtual I.d()I, return", "Incompatible spent 2"},
		{"null, invokeinterface I.d()I, return", "Malformed spent 2"},
		{"null, invokeinterface A:m()I, return", "Incompatible spent 2"},
		{"null, invokeinterface I:s()I, return", "Incompatible spent 2"},
		{"null, invokeinterface I:none()I, return", "NoSuchMethod spent 2"},
		{"null, invokespecial A.none()V, return", "NoSuchMethod spent 2"},
		{"null, invokespecial A.s()I, return", "Incompatible spent 2"},
		// Null is ahead of the selection.
		{"null, invokevirtual A.m()I, return", "NullPointer spent 2"},
		{"null, invokevirtual A.z()I, return", "NullPointer spent 2"},
		{"null, invokevirtual U.two()I, return", "NullPointer spent 2"},
		{"null, invokeinterface I:a()I, return", "NullPointer spent 2"},
		{"null, invokespecial A.<init>()V, return", "NullPointer spent 2"},
		{"null, invokespecial B.<init>()V, return", "NullPointer spent 2"},
		{"null, invokespecial A.z()I, return", "NullPointer spent 2"},
		// Linking, null and the selection are ahead of what the arguments are.
		{"null, new Object, invokevirtual A.take(LA;)V, return", "NullPointer spent 3"},
		{"new Object, new Object, invokevirtual A.take(LA;)V, return", "Incompatible spent 3"},
		{"new A, new Object, invokevirtual A.take(LB;)V, return", "NoSuchMethod spent 3"},
		{"new A, new Object, invokeinterface I:take(LI;)V, return", "Incompatible spent 3"},
		// What is taken is ahead of all.
		{"null, iconst 0, invokevirtual no/Such.take(LA;)V, return", "Malformed spent 3"},
		{"iconst 0, null, invokevirtual no/Such.take(LA;)V, return", "Malformed spent 3"},
	})
}

func TestArgumentsOfInvocations(t *testing.T) { // P22.2: references that are below the argument's type, and such as are not
	array := "iconst 1, newarray "
	takes := func(t *testing.T, text string) api.Method { return method(t, text, static, "return") }
	runsCity(t, []piece{
		{"new A, new A, invokevirtual A.take(LA;)V, return", "returned spent 5"},
		{"new A, new C, invokevirtual A.take(LA;)V, return", "returned spent 5"},
		{"new A, null, invokevirtual A.take(LA;)V, return", "returned spent 5"},
		{"new A, new Object, invokevirtual A.take(LA;)V, return", "Malformed spent 3"},
		{"new A, " + array + "LA;, invokevirtual A.take(LA;)V, return", "Malformed spent 4"},
		{"new A, new A, invokevirtual A.far(Lno/Such;)V, return", "Malformed spent 3"},
		{"new A, null, invokevirtual A.far(Lno/Such;)V, return", "returned spent 5"},
		{"new A, iconst 5, new B, " + array + "LN;, invokevirtual A.mix(ILA;[LI;)V, return", "5 returned spent 10"},
		{"new A, iconst 5, null, null, invokevirtual A.mix(ILA;[LI;)V, return", "5 returned spent 9"},
		{"new A, iconst 5, new N, null, invokevirtual A.mix(ILA;[LI;)V, return", "Malformed spent 5"},
		{"new A, iconst 5, new B, new N, invokevirtual A.mix(ILA;[LI;)V, return", "Malformed spent 5"},
		{"new A, iconst 5, new B, " + array + "LA;, invokevirtual A.mix(ILA;[LI;)V, return", "Malformed spent 6"},
		{"new A, iconst 5, new B, " + array + "I, invokevirtual A.mix(ILA;[LI;)V, return", "Malformed spent 6"},
		{"new A, iconst 5, iconst 6, " + array + "I, invokevirtual A.order(II[I)V, return", "5 6 1 A 0 returned spent 19"},
		{"new B, iconst 5, iconst 6, " + array + "[I, invokevirtual A.order(II[I)V, return", "Malformed spent 6"},
		{array + "I, invokestatic Main.objects(LObject;)V, return", "returned spent 5"},
		{array + "I, invokestatic Main.lists([I)V, return", "returned spent 5"},
		{array + "[I, invokestatic Main.lists([I)V, return", "Malformed spent 3"},
		{array + "[LC;, invokestatic Main.grids([[LA;)V, return", "returned spent 5"},
		{array + "LC;, invokestatic Main.grids([[LA;)V, return", "Malformed spent 3"},
		{"null, invokestatic Main.unknown([Lno/Such;)V, return", "returned spent 4"},
		{array + "LC;, invokestatic Main.unknown([Lno/Such;)V, return", "Malformed spent 3"},
		// A type that is shut to the class is no less loaded.
		{"invokestatic q/X.shut()LObject;, invokestatic Main.shut(Lq/Shut;)V, return", "returned spent 6"},
		{"new A, invokestatic Main.shut(Lq/Shut;)V, return", "Malformed spent 2"},
		{"new N, invokestatic Main.ofI(LI;)V, return", "returned spent 4"},
		{"new A, invokestatic Main.ofI(LI;)V, return", "Malformed spent 2"},
		{"new A, new Object, invokestatic Main.both(LA;LA;)V, return", "Malformed spent 3"},
		{"new Object, new A, invokestatic Main.both(LA;LA;)V, return", "Malformed spent 3"},
		{"new A, new A, invokestatic Main.both(LA;LA;)V, return", "returned spent 5"},
	}, takes(t, "objects(LObject;)V"), takes(t, "lists([I)V"), takes(t, "grids([[LA;)V"), takes(t, "unknown([Lno/Such;)V"), takes(t, "shut(Lq/Shut;)V"), takes(t, "ofI(LI;)V"), takes(t, "both(LA;LA;)V"))
}

func TestOperandsBelowArguments(t *testing.T) { // P22.2: those of the invoker stay, and the method's own begin with none
	runsCity(t, []piece{
		{"iconst 9, iconst 8, iconst 1, iconst 2, invokestatic Main.sub(II)I, print, print, print, return", "-1 8 9 returned spent 13"},
		{"iconst 9, invokestatic Main.bare()I, print, return", "Malformed spent 3"},
		{"iconst 9, invokestatic Main.kept()V, print, return", "9 returned spent 7"},
		{"iconst 7, istore 0, invokestatic Main.local()V, iload 0, print, return", "0 7 returned spent 11"},
	}, method(t, "sub(II)I", static, "iload 0, iload 1, isub, ireturn"), method(t, "bare()I", static, "ireturn"), method(t, "kept()V", static, "iconst 3, null, return"), method(t, "local()V", static, "iload 0, print, iconst 3, istore 0, return"))
}

func TestArgumentsAreAsMany(t *testing.T) { // P22.2: as there may be, taken backwards
	desc := "(" + strings.Repeat("I", 19) + "LObject;)V"
	var lines, puts []string
	want := ""
	for n := range 19 {
		lines = append(lines, fmt.Sprintf("iload %d, print", n+1))
		puts = append(puts, fmt.Sprintf("iconst %d", 50-n))
		want += fmt.Sprint(50-n, " ")
	}
	m := sized(method(t, "m"+desc, normal, strings.Join(lines, ", ")+", aload 20, printclass, return"), 21, 1)
	main := sized(method(t, "f()V", static, "new A, "+strings.Join(puts, ", ")+", new B, invokevirtual A.m"+desc+", return"), 0, 21)
	s := newSubject(t, linkerOf(t, class("A", "Object", m, main), class("B", "A")), 2)
	s.says(t, "A.f()V", nil, plenty, want+"B returned spent "+fmt.Sprint(1+19+1+1+40+1+1))
}

// deep makes a class whose f fills the stack but for 16 words, by frames of 83, and does then what the lines say.
func deep(t testing.TB, lines string, others ...api.Method) api.Class {
	full := sized(method(t, "f(I)V", static, "iload 0, ifeq 7, iload 0, iconst -1, iadd, invokestatic Main.f(I)V, return, "+lines+", return"), 40, 40)
	return class("Main", "Object", append(others, full)...)
}

func TestNoRoomForAFrame(t *testing.T) { // P22.2: StackOverflow, behind all that is asked of an invocation
	big := func(text string, flags int) api.Method { return sized(method(t, text, flags, "return"), 40, 40) }
	for _, p := range []piece{
		{"iconst 0, print", "0 returned"},
		{"invokestatic Main.words16()V", "returned"},
		{"invokestatic Main.words17()V", "StackOverflow"},
		{"invokestatic Main.room17()V", "StackOverflow"},
		{"invokestatic Main.words16()V, invokestatic Main.words16()V", "returned"},
		{"invokestatic Main.nested()V", "StackOverflow"},
		{"invokestatic Main.big()V", "StackOverflow"},
		{"new Main, invokevirtual Main.m()V", "StackOverflow"},
		{"null, invokevirtual Main.m()V", "NullPointer"},
		{"new Object, invokevirtual Main.m()V", "Incompatible"},
		{"new Main, invokevirtual Main.a()V", "Abstract"},
		{"new Main, invokevirtual Main.none()V", "NoSuchMethod"},
		{"new Main, new Main, invokevirtual Main.of(LMain;)V", "StackOverflow"},
		{"new Main, new Object, invokevirtual Main.of(LMain;)V", "Malformed"},
		{"new Main, null, invokevirtual Main.of(LMain;)V", "StackOverflow"},
		{"new Main, invokespecial Main.m()V", "StackOverflow"},
		{"iconst 1, invokestatic Main.f(I)V", "StackOverflow"},
	} {
		s := newSubject(t, linkerOf(t, deep(t, p.code,
			sized(method(t, "words16()V", static, "return"), 13, 0), sized(method(t, "words17()V", static, "return"), 14, 0), sized(method(t, "room17()V", static, "return"), 0, 14),
			sized(method(t, "nested()V", static, "invokestatic Main.nested()V, return"), 0, 0), big("big()V", static), big("m()V", normal), big("of(LMain;)V", normal), method(t, "a()V", abstract, ""))), 1)
		got, _ := s.run(t, ref("Main.f(I)V"), []int{47}, api.MaxFuel)
		if text := said(got); !strings.HasPrefix(text, p.want+" ") {
			t.Errorf("%s: %s, want %s", p.code, text, p.want)
		}
	}
	// The frame of main is counted, and those that are left are not.
	s := newSubject(t, linkerOf(t, deep(t, "goto 6")), 1)
	s.says(t, "Main.f(I)V", []int{47}, api.MaxFuel, "returned spent 333")
	s.says(t, "Main.f(I)V", []int{48}, api.MaxFuel, "StackOverflow spent 288")
	round := sized(method(t, "f()V", static, "iload 0, iconst 1, iadd, istore 0, invokestatic Main.big()V, iload 0, iconst 500, ifcmplt 0, return"), 1, 2)
	newSubject(t, linkerOf(t, class("Main", "Object", round, big("big()V", static))), 1).says(t, "Main.f()V", nil, api.MaxFuel, "returned spent 4501")
}

func TestEndlessInvocations(t *testing.T) { // P22.2: each of four words of a frame is one of 4000
	for _, c := range []struct{ locals, stack, frames int }{{0, 0, 1333}, {0, 1, 1000}, {4, 6, 307}, {40, 40, 48}, {0, 40, 93}, {40, 0, 93}} {
		s := newSubject(t, linkerOf(t, class("A", "Object", sized(method(t, "f()V", static, "invokestatic A.f()V"), c.locals, c.stack))), 0)
		s.says(t, "A.f()V", nil, api.MaxFuel, fmt.Sprint("StackOverflow spent ", c.frames))
		s.counted(t, 0, 0, 0, c.frames-1)
		s.says(t, "A.f()V", nil, c.frames-1, fmt.Sprint("FuelSpent spent ", c.frames-1))
		s.counted(t, 0, 0, 0, 2*(c.frames-1))
	}
}

// returnCases tell what a method of a descriptor answers by its code: want is empty where it is Malformed.
func returnCases() []struct{ desc, code, want string } {
	return []struct{ desc, code, want string }{
		{"I", "iconst 5, ireturn", "5"}, {"I", "iconst -2147483648, ireturn", "-2147483648"}, {"I", "null, areturn", ""}, {"I", "new A, areturn", ""}, {"I", "return", ""}, {"I", "ireturn", ""}, {"I", "null, ireturn", ""}, {"I", "iconst 6, iconst 5, ireturn", "5"},
		{"V", "return", "returned"}, {"V", "iconst 5, ireturn", ""}, {"V", "null, areturn", ""}, {"V", "new A, areturn", ""}, {"V", "iconst 5, null, return", "returned"}, {"V", "ireturn", ""}, {"V", "areturn", ""},
		{"LB0;", "null, areturn", "ref 0"}, {"LB0;", "new B0, areturn", "ref 1"}, {"LB0;", "new B1, areturn", "ref 1"}, {"LB0;", "new A, areturn", ""}, {"LB0;", "iconst 5, ireturn", ""}, {"LB0;", "return", ""}, {"LB0;", "areturn", ""}, {"LB0;", "iconst 5, areturn", ""}, {"LB0;", "new A, new B1, areturn", "ref 2"}, {"LB0;", "iconst 1, newarray LB0;, areturn", ""},
		{"LI;", "new B1, areturn", "ref 1"}, {"LI;", "new A, areturn", ""}, {"LObject;", "iconst 1, newarray I, areturn", "ref 1"}, {"LCloneable;", "iconst 1, newarray I, areturn", "ref 1"}, {"LCloneable;", "new A, areturn", ""},
		{"[LB0;", "iconst 1, newarray LB1;, areturn", "ref 1"}, {"[LB0;", "iconst 1, newarray LA;, areturn", ""}, {"[LB0;", "new B1, areturn", ""}, {"[LB0;", "null, areturn", "ref 0"}, {"[I", "iconst 1, newarray I, areturn", "ref 1"}, {"[I", "iconst 1, newarray [I, areturn", ""}, {"[I", "iconst 1, ireturn", ""}, {"[[LI;", "iconst 3, multinew 1 [[LB1;, areturn", "ref 1"},
		{"Lno/Such;", "null, areturn", "ref 0"}, {"Lno/Such;", "new A, areturn", ""}, {"[Lno/Such;", "iconst 1, newarray LA;, areturn", ""}, {"[Lno/Such;", "null, areturn", "ref 0"},
		// Whether the type is open to the class is not asked.
		{"Lq/Shut;", "new q/Open, areturn", "ref 1"}, {"Lq/Shut;", "new B1, areturn", ""},
	}
}

func TestReturns(t *testing.T) { // P22.2: from main, and from a method that was invoked
	for _, c := range returnCases() {
		g := method(t, "g()"+c.desc, static, c.code)
		spent := len(g.Code)
		text, want := "A.g()"+c.desc, c.want
		if want == "" {
			want = "Malformed"
		}
		l := linkerOf(t, append(sampleClasses(), class("A", "Object", g, method(t, "f()V", static, "iconst 9, invokestatic "+text+map[bool]string{true: ", print, return", false: ", pop, print, return"}[c.desc == "V"])))...)
		for _, capacity := range []int{0, 1, 2} {
			s := newSubject(t, l, capacity)
			s.says(t, text, nil, plenty, fmt.Sprint(want, " spent ", spent))
			s.says(t, text, nil, spent, fmt.Sprint(want, " spent ", spent))
			switch {
			case c.want == "":
				s.says(t, "A.f()V", nil, plenty, fmt.Sprint("Malformed spent ", spent+2))
			case c.desc == "V":
				s.says(t, "A.f()V", nil, plenty, fmt.Sprint("9 returned spent ", spent+4))
			default:
				s.says(t, "A.f()V", nil, plenty, fmt.Sprint("9 returned spent ", spent+5))
			}
		}
	}
}

func TestReturnsFindRoom(t *testing.T) { // P22.2: a value is put in the frame below, or there is no room for it
	answer, ref1 := method(t, "g()I", static, "iconst 5, ireturn"), method(t, "o()LA;", static, "new A, areturn")
	nothing, one := method(t, "v()V", static, "return"), method(t, "one(I)I", static, "iload 0, ireturn")
	for _, c := range []struct {
		lines string
		room  int
		want  string
	}{
		{"invokestatic A.g()I, return", 1, "returned spent 4"},
		{"invokestatic A.g()I, return", 0, "Malformed spent 3"},
		{"invokestatic A.o()LA;, return", 1, "returned spent 4"},
		{"invokestatic A.o()LA;, return", 0, "Malformed spent 3"},
		{"invokestatic A.v()V, return", 0, "returned spent 3"},
		{"iconst 1, invokestatic A.v()V, return", 1, "returned spent 4"},
		{"iconst 1, invokestatic A.g()I, return", 1, "Malformed spent 4"},
		{"iconst 1, invokestatic A.g()I, return", 2, "returned spent 5"},
		{"iconst 1, invokestatic A.one(I)I, print, return", 1, "1 returned spent 6"},
		{"new A, invokevirtual A.id()I, print, return", 1, "7 returned spent 6"},
	} {
		s := newSubject(t, linkerOf(t, class("A", "Object", answer, ref1, nothing, one, sized(method(t, "f()V", static, c.lines), 0, c.room))), 1)
		s.says(t, "A.f()V", nil, plenty, c.want)
	}
	// Main's own value needs none.
	newSubject(t, linkerOf(t, class("A", "Object", sized(method(t, "f(I)I", static, "iload 0, ireturn"), 1, 1))), 1).says(t, "A.f(I)I", []int{3}, 2, "3 spent 2")
}

func TestTheClassOfTheFrame(t *testing.T) { // P22.2: what is seen is seen from the class whose code runs, not from main's or the receiver's
	home := class("q/Home", "Object", method(t, "make()LObject;", static, "new q/Shut, areturn"), method(t, "cast(LObject;)I", static, "aload 0, instanceof q/Shut, ireturn"), method(t, "list()LObject;", static, "iconst 1, newarray Lq/Shut;, areturn"), method(t, "grid()LObject;", static, "iconst 1, multinew 1 [Lq/Shut;, areturn"), method(t, "back()LObject;", static, "new q/Shut, checkcast q/Shut, areturn"))
	for _, p := range []piece{
		{"invokestatic q/Home.make()LObject;, printclass, return", "q/Shut returned spent 5"},
		{"invokestatic q/Home.make()LObject;, invokestatic q/Home.cast(LObject;)I, print, return", "1 returned spent 9"},
		{"invokestatic q/Home.list()LObject;, printclass, return", "[Lq/Shut; returned spent 6"},
		{"invokestatic q/Home.grid()LObject;, printclass, return", "[Lq/Shut; returned spent 6"},
		{"invokestatic q/Home.back()LObject;, printclass, return", "q/Shut returned spent 6"},
		{"invokestatic q/Home.make()LObject;, new q/Shut, return", "IllegalAccess spent 4"},
		{"invokestatic q/Home.make()LObject;, instanceof q/Shut, return", "IllegalAccess spent 4"},
	} {
		s := newSubject(t, linkerOf(t, append(sampleClasses(), home, class("A", "Object", method(t, "f()V", static, p.code)))...), 1)
		s.says(t, "A.f()V", nil, plenty, p.want)
	}
}

func TestCounts(t *testing.T) { // P22.4: over several runs, main's not counted, nor what entered nothing
	some := "new N, invokeinterface I:d()I, pop, new N, invokeinterface I:a()I, pop, new A, invokevirtual A.m()I, pop, new A, invokespecial A.<init>()V, invokestatic A.s()I, pop, invokestatic I:s()I, pop, invokestatic A.s()I, pop, return"
	w := append(cityClasses(t), class("Main", "Object", method(t, "f()V", static, some),
		method(t, "none()V", static, "return"), method(t, "fails()V", static, "invokestatic Main.none()V, new A, invokevirtual A.z()I, return"), method(t, "null()V", static, "null, invokevirtual A.m()I, return"), method(t, "wrong()V", static, "new A, new Object, invokevirtual A.take(LA;)V, return"),
		method(t, "noClass()V", static, "invokestatic no/Such.m()V, return"), method(t, "twice()V", static, "new C, invokevirtual C.up()I, return"), method(t, "out()I", static, "invokestatic Main.bad()I, ireturn"), method(t, "bad()I", static, "return")))
	for _, capacity := range capacities {
		s := newSubject(t, linkerOf(t, w...), capacity)
		s.counted(t, 0, 0, 0, 0)
		s.says(t, "Main.f()V", nil, plenty, "14 returned spent 33")
		s.counted(t, 1, 2, 1, 3)
		s.says(t, "Main.f()V", nil, plenty, "14 returned spent 33")
		s.counted(t, 2, 4, 2, 6)
		s.says(t, "Main.none()V", nil, plenty, "returned spent 1")
		s.counted(t, 2, 4, 2, 6)
		s.says(t, "Main.fails()V", nil, plenty, "Abstract spent 4")
		s.counted(t, 2, 4, 2, 7)
		s.says(t, "Main.null()V", nil, plenty, "NullPointer spent 2")
		s.says(t, "Main.wrong()V", nil, plenty, "Malformed spent 3")
		s.says(t, "Main.noClass()V", nil, plenty, "NoClassDef spent 1")
		s.refuses(t, ref("Main.f()V"), []int{1}, plenty, api.ErrArg)
		s.counted(t, 2, 4, 2, 7)
		s.says(t, "Main.twice()V", nil, plenty, "returned spent 8")
		s.counted(t, 3, 4, 3, 7)
		// One that was entered counts, however it ends.
		s.says(t, "Main.out()I", nil, plenty, "Malformed spent 2")
		s.counted(t, 3, 4, 3, 8)
		s.says(t, "Main.f()V", nil, 2, "FuelSpent spent 2")
		s.counted(t, 3, 5, 3, 8)
		s.says(t, "Main.f()V", nil, 1, "FuelSpent spent 1")
		s.counted(t, 3, 5, 3, 8)
	}
}

func TestReads(t *testing.T) { // P22.4: the words that the call sites have read, over several runs
	loop := "new B, invokevirtual A.m()I, pop, new N, invokeinterface I:d()I, pop, iload 0, iconst 1, iadd, istore 0, iload 0, iconst 5, ifcmplt 0, return"
	for _, capacity := range capacities {
		l := linkerOf(t, append(cityClasses(t), mainOf(t, loop))...)
		s := newSubject(t, l, capacity)
		main, _ := l.World().ByName("Main")
		a, _ := site.New(l, main, api.Virtual, ref("A.m()I"), capacity)
		i, _ := site.New(l, main, api.Iface, ref("I:d()I"), capacity)
		for range 3 {
			s.says(t, "Main.f()V", nil, plenty, "returned spent 86")
			for range 5 {
				a.Link()
				a.Call(api.Type{Name: "B"})
				i.Link()
				i.Call(api.Type{Name: "N"})
			}
			if got, want := s.Reads(), a.Reads()+i.Reads(); got != want || got == 0 {
				t.Errorf("capacity %d: Reads() = %d, want %d", capacity, got, want)
			}
		}
	}
}

func TestSitesAreKept(t *testing.T) { // P22.1, P22.3: one for each instruction of each method, from run to run
	twice := "invokestatic A.s()I, pop, invokestatic A.s()I, pop, return"
	l := linkerOf(t, append(cityClasses(t), class("Main", "Object", method(t, "f()V", static, twice), method(t, "g()V", static, twice), method(t, "late()V", static, "invokestatic Late.s()V, return")))...)
	s := newSubject(t, l, 3)
	sites := func(want int) {
		t.Helper()
		if got := len(s.sites); got != want {
			t.Errorf("%d sites are kept, want %d", got, want)
		}
	}
	s.says(t, "Main.f()V", nil, 3, "FuelSpent spent 3")
	sites(1)
	for range 2 {
		s.says(t, "Main.f()V", nil, plenty, "returned spent 9")
		sites(2)
	}
	s.says(t, "Main.g()V", nil, plenty, "returned spent 9")
	sites(4)
	s.says(t, "Main.late()V", nil, plenty, "NoClassDef spent 1")
	sites(5)
	define(t, l.World(), class("Late", "Object", method(t, "s()V", static, "return")))
	s.says(t, "Main.late()V", nil, plenty, "returned spent 3")
	sites(5)
}
