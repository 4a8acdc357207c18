package choose

import (
	"math"
	"strings"
	"testing"

	"arbiter/api"
	"arbiter/hier"
)

// cityClasses have methods of each kind, in classes and interfaces that others see from above, below and beside.
func cityClasses() []api.Class {
	return list(
		class("A", "Object", method("m", normal), method("s", static), method("p", api.Private), method("w", 0), method("<init>", normal), method("<init>(I)V", api.Private), method("z", abstract)),
		class("B", "A", method("m", normal), method("id()I", normal)),
		class("C", "B", method("m", normal)),
		old(class("O", "B", method("m", normal))),
		iface("I", method("a", abstract), method("d", normal), method("s", static), method("p", api.Private), method("two", normal), method("m", abstract)),
		iface("J", method("two", normal)),
		of(iface("K"), "I"),
		of(class("N", "C"), "K"),
		of(class("T", "Object", method("a", api.Protected)), "I", "J"),
		of(class("U", "Object"), "I", "J"),
		class("q/X", "Object"),
		shut(class("q/Shut", "A")), shut(of(iface("q/ShutI"), "I")),
	)
}

// callCase says by texts what an invocation from the class q/X runs, if none other is named.
type callCase struct {
	from, text, recv string
	want             string
	err              api.Errno
}

func ask(t *testing.T, kind int, cases []callCase) {
	t.Helper()
	w := worldOf(t, cityClasses()...)
	for _, c := range cases {
		if c.from == "" {
			c.from = "q/X"
		}
		call(t, w, c.from, kind, c.text, c.recv, c.want, c.err)
	}
}

func TestCallVirtual(t *testing.T) { // P12.4
	ask(t, api.Virtual, []callCase{
		{text: "A.m()V", recv: "A", want: "A.m()V"},
		{text: "A.m()V", recv: "B", want: "B.m()V"},
		{text: "A.m()V", recv: "N", want: "C.m()V"},
		{text: "B.m()V", recv: "C", want: "C.m()V"},
		{text: "N.m()V", recv: "N", want: "C.m()V"},
		{text: "N.d()V", recv: "N", want: "I.d()V"},
		{text: "N.w()V", recv: "N", from: "A", want: "A.w()V"},
		{text: "A.p()V", recv: "C", from: "A", want: "A.p()V"},
		{text: "C.id()I", recv: "N", want: "B.id()I"},
		{text: "Object.id()I", recv: "A", want: "Object.id()I"},
		{text: "Object.id()I", recv: "C", want: "B.id()I"},
		{text: "Object.kin()LObject;", recv: "C", want: "Object.kin()LObject;"},
		// Each of its errors.
		{text: "A.m()V", recv: "int", err: api.ErrArg},
		{text: "A.m()V", recv: "I", err: api.ErrArg},
		{text: "A.m()V", recv: "Cloneable", err: api.ErrArg},
		{text: "A.m()V", recv: "1", err: api.ErrForm},
		{text: "A.m()V", recv: "no/Such", err: api.NoClassDef},
		{text: "A.1()V", recv: "A", err: api.ErrForm},
		{text: "A:m()V", recv: "A", err: api.Malformed},
		{text: "I:d()V", recv: "N", err: api.Malformed},
		{text: "A.<init>()V", recv: "A", err: api.Malformed},
		{text: "I:<init>()V", recv: "A", err: api.Malformed},
		{text: "no/Such.m()V", recv: "A", err: api.NoClassDef},
		{text: "A.none()V", recv: "A", err: api.NoSuchMethod},
		{text: "A.p()V", recv: "A", err: api.IllegalAccess},
		{text: "A.w()V", recv: "A", err: api.IllegalAccess},
		{text: "q/Shut.m()V", recv: "A", from: "A", err: api.IllegalAccess},
		{text: "I.d()V", recv: "N", err: api.Incompatible},
		{text: "A.s()V", recv: "A", err: api.Incompatible},
		{text: "B.m()V", recv: "A", err: api.Incompatible},
		{text: "A.m()V", recv: "Object", err: api.Incompatible},
		{text: "A.m()V", recv: "q/X", err: api.Incompatible},
		{text: "A.z()V", recv: "C", err: api.Abstract},
		{text: "U.two()V", recv: "U", err: api.Incompatible},
		{text: "U.a()V", recv: "U", err: api.Abstract},
	})
}

func TestCallInterface(t *testing.T) { // P12.4
	ask(t, api.Iface, []callCase{
		{text: "I:m()V", recv: "N", want: "C.m()V"},
		{text: "K:m()V", recv: "N", want: "C.m()V"},
		{text: "I:d()V", recv: "N", want: "I.d()V"},
		{text: "K:d()V", recv: "N", want: "I.d()V"},
		{text: "K:id()I", recv: "N", want: "B.id()I"},
		{text: "J:id()I", recv: "U", want: "Object.id()I"},
		{text: "q/ShutI:id()I", recv: "N", from: "q/X", err: api.Incompatible},
		// Each of its errors.
		{text: "I:m()V", recv: "int", err: api.ErrArg},
		{text: "I:m()V", recv: "I", err: api.ErrArg},
		{text: "I:m()V", recv: "K", err: api.ErrArg},
		{text: "I:m()V", recv: "[1", err: api.ErrForm},
		{text: "I:m()V", recv: "[no/Such", err: api.NoClassDef},
		{text: "I:m(V)V", recv: "N", err: api.ErrForm},
		{text: "I.m()V", recv: "N", err: api.Malformed},
		{text: "A.m()V", recv: "A", err: api.Malformed},
		{text: "K:<init>()V", recv: "N", err: api.Malformed},
		{text: "A.<init>()V", recv: "N", err: api.Malformed},
		{text: "no/Such:m()V", recv: "N", err: api.NoClassDef},
		{text: "I:none()V", recv: "N", err: api.NoSuchMethod},
		{text: "I:kin()LObject;", recv: "N", err: api.NoSuchMethod},
		{text: "I:p()V", recv: "N", err: api.IllegalAccess},
		{text: "q/ShutI:m()V", recv: "N", from: "A", err: api.IllegalAccess},
		{text: "A:m()V", recv: "A", err: api.Incompatible},
		{text: "I:s()V", recv: "N", err: api.Incompatible},
		{text: "I:p()V", recv: "N", from: "I", err: api.Incompatible},
		{text: "J:two()V", recv: "N", err: api.Incompatible},
		{text: "I:m()V", recv: "C", err: api.Incompatible},
		{text: "I:a()V", recv: "T", err: api.IllegalAccess},
		{text: "I:a()V", recv: "U", err: api.Abstract},
		{text: "I:two()V", recv: "U", err: api.Incompatible},
	})
}

func TestCallSpecial(t *testing.T) { // P12.4
	ask(t, api.Special, []callCase{
		{text: "A.m()V", recv: "C", from: "C", want: "B.m()V"},
		{text: "A.m()V", recv: "A", from: "C", want: "B.m()V"},
		{text: "A.m()V", recv: "O", from: "O", want: "A.m()V"},
		{text: "C.m()V", recv: "N", from: "C", want: "C.m()V"},
		{text: "B.m()V", recv: "C", from: "C", want: "B.m()V"},
		{text: "A.m()V", recv: "C", want: "A.m()V"},
		{text: "A.p()V", recv: "C", from: "A", want: "A.p()V"},
		{text: "I:p()V", recv: "N", from: "I", want: "I.p()V"},
		{text: "I:d()V", recv: "N", from: "N", want: "I.d()V"},
		{text: "K:d()V", recv: "N", from: "N", want: "I.d()V"},
		{text: "K:id()I", recv: "N", from: "N", want: "Object.id()I"},
		{text: "Object.id()I", recv: "C", from: "C", want: "B.id()I"},
		{text: "Object.id()I", recv: "O", from: "O", want: "Object.id()I"},
		{text: "A.<init>()V", recv: "C", from: "C", want: "A.<init>()V"},
		{text: "A.<init>()V", recv: "A", want: "A.<init>()V"},
		{text: "A.<init>(I)V", recv: "A", from: "A", want: "A.<init>(I)V"},
		{text: "Object.<init>()V", recv: "A", from: "A", want: "Object.<init>()V"},
		// Each of its errors.
		{text: "A.m()V", recv: "int", err: api.ErrArg},
		{text: "I:d()V", recv: "I", err: api.ErrArg},
		{text: "A.m()V", recv: "p/", err: api.ErrForm},
		{text: "A.m()V", recv: "no/Such", err: api.NoClassDef},
		{text: "A.m", recv: "A", err: api.ErrForm},
		{text: "no/Such.<init>()V", recv: "A", err: api.NoClassDef},
		{text: "A.none()V", recv: "A", err: api.NoSuchMethod},
		{text: "A.<init>(II)V", recv: "A", err: api.NoSuchMethod},
		{text: "A.<init>(I)V", recv: "A", err: api.IllegalAccess},
		{text: "A.p()V", recv: "A", from: "C", err: api.IllegalAccess},
		{text: "I.d()V", recv: "N", err: api.Incompatible},
		{text: "A:m()V", recv: "A", err: api.Incompatible},
		{text: "A.s()V", recv: "A", err: api.Incompatible},
		{text: "I:s()V", recv: "N", err: api.Incompatible},
		{text: "B.m()V", recv: "A", err: api.Incompatible},
		{text: "A.<init>()V", recv: "Object", err: api.Incompatible},
		{text: "B.<init>()V", recv: "C", err: api.NoSuchMethod},
		{text: "K:<init>()V", recv: "N", err: api.NoSuchMethod},
		{text: "A.z()V", recv: "C", from: "C", err: api.Abstract},
		{text: "I:a()V", recv: "N", from: "N", err: api.Abstract},
		{text: "U.two()V", recv: "U", from: "U", err: api.Incompatible},
	})
}

func TestCallStatic(t *testing.T) { // P12.4: the receiver is not looked at
	for _, recv := range []string{"int", "A", "q/X", "I", "[int", "no/Such", "[no/Such", "1", "", "\xff", "[I"} {
		ask(t, api.StaticInv, []callCase{
			{text: "A.s()V", recv: recv, want: "A.s()V"},
			{text: "N.s()V", recv: recv, want: "A.s()V"},
			{text: "I:s()V", recv: recv, want: "I.s()V"},
			// Each of its errors.
			{text: "A.1()V", recv: recv, err: api.ErrForm},
			{text: "A.<init>()V", recv: recv, err: api.Malformed},
			{text: "K:<init>()V", recv: recv, err: api.Malformed},
			{text: "no/Such.s()V", recv: recv, err: api.NoClassDef},
			{text: "A.none()V", recv: recv, err: api.NoSuchMethod},
			{text: "K:s()V", recv: recv, err: api.NoSuchMethod},
			{text: "[LA;.s()V", recv: recv, err: api.NoSuchMethod},
			{text: "q/Shut.s()V", recv: recv, from: "A", err: api.IllegalAccess},
			{text: "A:s()V", recv: recv, err: api.Incompatible},
			{text: "I.s()V", recv: recv, err: api.Incompatible},
			{text: "A.m()V", recv: recv, err: api.Incompatible},
			{text: "A.p()V", recv: recv, from: "A", err: api.Incompatible},
			{text: "A.z()V", recv: recv, err: api.Incompatible},
			{text: "I:p()V", recv: recv, from: "I", err: api.Incompatible},
			{text: "[I.id()I", recv: recv, err: api.Incompatible},
		})
	}
	w := worldOf(t, cityClasses()...)
	for _, recv := range []api.Type{{Dims: -1}, {Dims: 256, Name: "A"}, {Dims: math.MinInt, Name: "\x00"}, {Dims: math.MaxInt}, {Name: strings.Repeat("n", 100000)}} {
		callIs(t, w, 0, api.StaticInv, ref("A.s()V"), recv, find(t, w, "A.s()V"), api.OK)
	}
}

func TestCallOnArrays(t *testing.T) { // P12.4: an array's holder is Object
	deep := strings.Repeat("[", api.MaxDims)
	for _, recv := range []string{"[int", "[[int", deep + "int", "[Object", "[A", "[[B", deep + "A", "[I", "[[K", "[Cloneable"} {
		ask(t, api.Virtual, []callCase{
			{text: "Object.id()I", recv: recv, want: "Object.id()I"},
			{text: "Object.kin()LObject;", recv: recv, want: "Object.kin()LObject;"},
			{text: "A.m()V", recv: recv, err: api.Incompatible},
			{text: "B.id()I", recv: recv, err: api.Incompatible},
		})
		ask(t, api.Iface, []callCase{
			{text: "Cloneable:id()I", recv: recv, want: "Object.id()I"},
			{text: "Serializable:id()I", recv: recv, want: "Object.id()I"},
			{text: "I:id()I", recv: recv, err: api.Incompatible},
			{text: "[I:id()I", recv: recv, err: api.Incompatible},
		})
		ask(t, api.Special, []callCase{
			{text: "Object.id()I", recv: recv, want: "Object.id()I"},
			{text: "Object.id()I", recv: recv, from: "C", want: "B.id()I"},
			{text: "Object.<init>()V", recv: recv, want: "Object.<init>()V"},
			{text: "Cloneable:id()I", recv: recv, want: "Object.id()I"},
			{text: "Cloneable:<init>()V", recv: recv, err: api.NoSuchMethod},
			{text: "A.<init>()V", recv: recv, err: api.Incompatible},
		})
	}
	for _, kind := range []int{api.Virtual, api.Special} {
		ask(t, kind, []callCase{
			{text: "[I.id()I", recv: "[int", want: "Object.id()I"},
			{text: "[I.id()I", recv: "[[int", err: api.Incompatible},
			{text: "[I.id()I", recv: "[A", err: api.Incompatible},
			{text: "[I.id()I", recv: "A", err: api.Incompatible},
			{text: "[I.id()I", recv: "Object", err: api.Incompatible},
			{text: "[LObject;.id()I", recv: "[[int", want: "Object.id()I"},
			{text: "[LA;.id()I", recv: "[B", from: "C", want: "Object.id()I"},
			{text: "[LB;.id()I", recv: "[B", from: "C", want: "Object.id()I"},
			{text: "[LB;.id()I", recv: "[A", err: api.Incompatible},
			{text: "[LI;.id()I", recv: "[N", want: "Object.id()I"},
			{text: "[LI;.id()I", recv: "[[N", err: api.Incompatible},
			{text: "[LCloneable;.id()I", recv: "[[N", want: "Object.id()I"},
			{text: deep + "LA;.id()I", recv: deep + "N", want: "Object.id()I"},
			{text: "[LA;.m()V", recv: "[A", err: api.NoSuchMethod},
			{text: "[LA;.kin()LObject;", recv: "[A", want: "Object.kin()LObject;"},
		})
	}
	ask(t, api.Special, []callCase{{text: "[LA;.<init>()V", recv: "[A", want: "Object.<init>()V"}})
	ask(t, api.Virtual, []callCase{{text: "[LA;.<init>()V", recv: "[A", err: api.Malformed}})
}

func TestReceiversThatAreNotSound(t *testing.T) { // P12.4: the error of Loaded
	w := worldOf(t, cityClasses()...)
	for _, recv := range []api.Type{{Dims: -1}, {Dims: -1, Name: "A"}, {Dims: 256}, {Dims: 256, Name: "A"}, {Dims: math.MinInt, Name: "A"}, {Dims: math.MaxInt}, {Name: "1"}, {Name: "p/"}, {Name: "[I"}, {Name: "LA;"}, {Name: "\xff"}, {Dims: 1, Name: " A"}, {Name: strings.Repeat("n", 61)}} {
		for _, kind := range []int{api.Virtual, api.Iface, api.Special} {
			callIs(t, w, 0, kind, ref("A.m()V"), recv, api.MethodID{}, api.ErrForm)
			callIs(t, w, 0, kind, ref("I:m()V"), recv, api.MethodID{}, api.ErrForm)
		}
	}
	for _, kind := range []int{api.Virtual, api.Iface, api.Special} {
		callIs(t, w, 0, kind, ref("A.m()V"), api.Type{Name: strings.Repeat("n", 60)}, api.MethodID{}, api.NoClassDef)
	}
}

// TestTheOrderOfErrors: of two conditions that hold at once the one that is named first is answered.
func TestTheOrderOfErrors(t *testing.T) { // R2; P12.1 to P12.3
	w := worldOf(t, cityClasses()...)
	noMethod, stat := api.MethodID{Class: -1}, find(t, w, "A.s()V")
	i, c := number(t, w, "I"), number(t, w, "C")
	// A nil World ahead of all.
	virtualIs(t, nil, -1, noMethod, api.MethodID{}, api.ErrArg)
	interfaceIs(t, nil, -1, noMethod, api.MethodID{}, api.ErrArg)
	specialIs(t, nil, -1, api.Ref{}, noMethod, api.MethodID{}, api.ErrArg)
	// A number that is none ahead of an interface as receiver and of a Static method.
	virtualIs(t, w, i, noMethod, api.MethodID{}, api.ErrRange)
	interfaceIs(t, w, i, noMethod, api.MethodID{}, api.ErrRange)
	virtualIs(t, w, w.Len(), stat, api.MethodID{}, api.ErrRange)
	interfaceIs(t, w, w.Len(), stat, api.MethodID{}, api.ErrRange)
	// An interface as receiver ahead of a method that may not be asked for.
	virtualIs(t, w, i, stat, api.MethodID{}, api.ErrArg)
	interfaceIs(t, w, i, stat, api.MethodID{}, api.ErrArg)
	interfaceIs(t, w, i, find(t, w, "I.p()V"), api.MethodID{}, api.ErrArg)
	// A method that may not be asked for ahead of what would be selected.
	interfaceIs(t, w, c, find(t, w, "I.p()V"), api.MethodID{}, api.Incompatible)
	interfaceIs(t, w, c, find(t, w, "A.p()V"), api.MethodID{}, api.Incompatible)
	virtualIs(t, w, number(t, w, "q/X"), stat, api.MethodID{}, api.Incompatible)
	// Of Special: numbers, the reference's form, its class, a Static method, <init>.
	specialIs(t, w, -1, api.Ref{}, stat, api.MethodID{}, api.ErrRange)
	specialIs(t, w, c, api.Ref{}, noMethod, api.MethodID{}, api.ErrRange)
	specialIs(t, w, c, ref("no/Such.m()V"), noMethod, api.MethodID{}, api.ErrRange)
	specialIs(t, w, c, ref("no/Such.1()V"), stat, api.MethodID{}, api.ErrForm)
	specialIs(t, w, c, ref("A.1()V"), stat, api.MethodID{}, api.ErrForm)
	specialIs(t, w, c, ref("no/Such.m()V"), stat, api.MethodID{}, api.NoClassDef)
	specialIs(t, w, c, ref("no/Such.<init>()V"), find(t, w, "A.<init>()V"), api.MethodID{}, api.NoClassDef)
	specialIs(t, w, c, ref("B.<init>()V"), stat, api.MethodID{}, api.Incompatible)
}

func TestTheOrderOfErrorsOfCall(t *testing.T) { // R2; P12.4
	w := worldOf(t, cityClasses()...)
	int0, none := api.Type{}, api.Type{Name: "no/Such"}
	x := number(t, w, "q/X")
	callIs(t, nil, -1, 0, api.Ref{}, int0, api.MethodID{}, api.ErrArg)
	callIs(t, w, -1, 0, api.Ref{}, int0, api.MethodID{}, api.ErrRange)
	callIs(t, w, w.Len(), api.StaticInv, api.Ref{}, none, api.MethodID{}, api.ErrRange)
	callIs(t, w, -1, api.Virtual, ref("A.m()V"), none, api.MethodID{}, api.ErrRange)
	callIs(t, w, x, 0, ref("A.m()V"), none, api.MethodID{}, api.ErrArg)
	callIs(t, w, x, 5, api.Ref{}, api.Type{Dims: -1}, api.MethodID{}, api.ErrArg)
	for _, c := range []struct {
		what       string
		kind       int
		text, recv string
		err        api.Errno
	}{
		{"a receiver that is not there, and no sound reference", api.Virtual, "A.1()V", "no/Such", api.NoClassDef},
		{"a receiver that is not sound, and no sound reference", api.Special, "A.1()V", "1", api.ErrForm},
		{"an int as receiver, and no sound reference", api.Virtual, "A.1()V", "int", api.ErrArg},
		{"an interface as receiver, and no sound reference", api.Iface, "A.1()V", "I", api.ErrArg},
		{"an int as receiver, and a reference that does not fit", api.Virtual, "I:m()V", "int", api.ErrArg},
		{"an interface as receiver, and a reference that does not fit", api.Iface, "A.m()V", "I", api.ErrArg},
		{"a receiver that is not there, and a reference that does not fit", api.Iface, "A.m()V", "no/Such", api.NoClassDef},
		{"an interface as receiver, and no such class", api.Virtual, "no/Such.m()V", "I", api.ErrArg},
		{"no sound reference, and one that does not fit", api.Virtual, "I:1()V", "A", api.ErrForm},
		{"no sound reference to <init>", api.Iface, "I:<init>()", "A", api.ErrForm},
		{"no sound reference, and no such class", api.Virtual, "no/Such.1()V", "A", api.ErrForm},
		{"a reference that does not fit, and no such class", api.Virtual, "no/Such:m()V", "A", api.Malformed},
		{"a reference that does not fit, and no such method", api.Iface, "A.none()V", "A", api.Malformed},
		{"a reference that does not fit, and a class that is shut", api.Virtual, "q/ShutI:m()V", "A", api.Malformed},
		{"<init>, and no such class", api.StaticInv, "no/Such.<init>()V", "A", api.Malformed},
		{"<init>, and no such method", api.Virtual, "A.<init>(II)V", "A", api.Malformed},
		{"<init>, and one that is not open", api.Virtual, "A.<init>(I)V", "A", api.Malformed},
		{"<init>, and a receiver that is not below", api.Virtual, "A.<init>()V", "q/X", api.Malformed},
		{"no such class, and a receiver that is not below", api.Virtual, "no/Such.m()V", "q/X", api.NoClassDef},
		{"no such method, and a receiver that is not below", api.Virtual, "A.none()V", "q/X", api.NoSuchMethod},
		{"a method that is not open, and a receiver that is not below", api.Virtual, "A.p()V", "q/X", api.IllegalAccess},
		{"a method that is not open, and not static", api.StaticInv, "A.p()V", "A", api.IllegalAccess},
		{"a method that is not open, and private", api.Iface, "I:p()V", "N", api.IllegalAccess},
		{"a receiver that is not below, and nothing but an abstract method", api.Virtual, "A.z()V", "q/X", api.Incompatible},
		{"a receiver that is not below, and nothing for it", api.Iface, "I:a()V", "q/X", api.Incompatible},
		{"a receiver that is not below, and <init> of another class", api.Special, "B.<init>()V", "A", api.Incompatible},
	} {
		t.Run(c.what, func(t *testing.T) { call(t, w, "q/X", c.kind, c.text, c.recv, "", c.err) })
	}
}

func TestKindsThatAreNone(t *testing.T) { // P12.4: ErrArg
	w := worldOf(t, cityClasses()...)
	for _, kind := range oddKinds {
		for _, text := range []string{"A.m()V", "I:m()V", "A.s()V", "A.<init>()V", "A.1()V", "no/Such.m()V"} {
			for _, recv := range []string{"N", "[A", "int", "I", "no/Such", "1"} {
				callIs(t, w, 0, kind, ref(text), typed(recv), api.MethodID{}, api.ErrArg)
			}
		}
	}
	// The edges are kinds.
	call(t, w, "q/X", 1, "A.m()V", "N", "C.m()V", 0)
	call(t, w, "q/X", 2, "I:m()V", "N", "C.m()V", 0)
	call(t, w, "N", 3, "A.m()V", "N", "C.m()V", 0)
	call(t, w, "q/X", 4, "A.s()V", "N", "A.s()V", 0)
}

func TestTheKindsAreThoseOfApi(t *testing.T) {
	if byVirtual != api.Virtual || byInterface != api.Iface || bySpecial != api.Special || byStatic != api.StaticInv {
		t.Errorf("the kinds are %d, %d, %d, %d", byVirtual, byInterface, bySpecial, byStatic)
	}
}

// refused asks that all calls answer this error at this number of a class, and nothing beside it.
func refused(t *testing.T, w *hier.World, want api.Errno, id int) {
	t.Helper()
	for _, m := range []api.MethodID{{}, {Index: 1}, {Class: 1}, {Class: -1}, {Index: -1}} {
		virtualIs(t, w, id, m, api.MethodID{}, want)
		interfaceIs(t, w, id, m, api.MethodID{}, want)
		for _, text := range []string{"Object.id()I", "Cloneable:id()I", "[I.id()I", "no/Such.m()V", ".", "Object.<init>()V"} {
			specialIs(t, w, id, ref(text), m, api.MethodID{}, want)
		}
	}
	for _, kind := range append(allKinds, oddKinds...) {
		for _, text := range []string{"Object.id()I", "Cloneable:id()I", "[I.id()I", "no/Such.m()V", ".", "Object.<init>()V"} {
			for _, recv := range []string{"Object", "[int", "int", "Cloneable", "no/Such", "1"} {
				callIs(t, w, id, kind, ref(text), typed(recv), api.MethodID{}, want)
			}
		}
	}
}

func TestNumbersThatAreNone(t *testing.T) { // P12.1 to P12.4: ErrRange
	w := worldOf(t, cityClasses()...)
	last := define(t, w, class("Last", "A", method("n", normal), method("m", normal)))
	for _, odd := range append([]int{last + 1, last + 2}, oddNumbers...) {
		refused(t, w, api.ErrRange, odd)
	}
	refused(t, hier.New(), api.ErrRange, 3)
	// The edges are numbers of classes.
	id := api.MethodID{Index: 1}
	for _, at := range []int{0, last} {
		virtualIs(t, w, at, id, id, api.OK)
		interfaceIs(t, w, at, id, id, api.OK)
		specialIs(t, w, at, ref("Object.id()I"), id, id, api.OK)
		callIs(t, w, at, api.Virtual, ref("Object.id()I"), typed("Last"), id, api.OK)
	}
}

func TestMethodsThatAreNone(t *testing.T) { // P12.1 to P12.3: ErrRange
	w := worldOf(t, cityClasses()...)
	last := define(t, w, class("Last", "Object", method("n", normal), method("m", normal)))
	methods := []api.MethodID{{Class: last, Index: 2}, {Class: last, Index: -1}, {Class: last + 1}, {Class: -1}, {Index: -1}, {Index: 3}, {Class: 1}, {Class: 1, Index: 1}, {Class: number(t, w, "q/X")}}
	for _, odd := range oddNumbers {
		methods = append(methods, api.MethodID{Class: odd}, api.MethodID{Index: odd}, api.MethodID{Class: last, Index: odd}, api.MethodID{Class: odd, Index: odd})
	}
	for _, m := range methods {
		for id := range w.Len() {
			virtualIs(t, w, id, m, api.MethodID{}, api.ErrRange)
			interfaceIs(t, w, id, m, api.MethodID{}, api.ErrRange)
			for _, text := range []string{"Last.m()V", "Object.<init>()V", "no/Such.m()V", "."} {
				specialIs(t, w, id, ref(text), m, api.MethodID{}, api.ErrRange)
			}
		}
	}
	// The edges are methods.
	for _, m := range []api.MethodID{{Index: 1}, {Class: last}, {Class: last, Index: 1}} {
		virtualIs(t, w, last, m, m, api.OK)
		interfaceIs(t, w, last, m, m, api.OK)
		specialIs(t, w, last, ref("Last.m()V"), m, m, api.OK)
	}
	virtualIs(t, w, 0, api.MethodID{Index: 2}, api.MethodID{Index: 2}, api.OK)
	specialIs(t, w, 0, ref("Object.m()V"), api.MethodID{}, api.MethodID{}, api.OK)
}

func TestNilWorld(t *testing.T) { // R6
	for _, id := range append([]int{0, 1, 2, 3}, oddNumbers...) {
		refused(t, nil, api.ErrArg, id)
	}
	for _, r := range badRefs() {
		specialIs(t, nil, 0, r, api.MethodID{}, api.MethodID{}, api.ErrArg)
		callIs(t, nil, 0, api.StaticInv, r, api.Type{}, api.MethodID{}, api.ErrArg)
	}
}

// TestWorldThatNewDidNotMake: it has no class, so no number is one.
func TestWorldThatNewDidNotMake(t *testing.T) { // P0.1
	for _, id := range append([]int{0, 1}, oddNumbers...) {
		refused(t, &hier.World{}, api.ErrRange, id)
	}
}

func TestExamples(t *testing.T) { // the chapter's examples
	for _, c := range []selectCase{
		{what: "1", classes: list(cm("A", "Object", normal), cm("B", "A", normal), class("C", "B")), r: "C", m: "A.m()V", want: "B.m()V"},
		{what: "1, A itself", classes: list(cm("A", "Object", normal), cm("B", "A", normal), class("C", "B")), r: "A", m: "A.m()V", want: "A.m()V"},
		{what: "1, B's abstract", classes: list(cm("A", "Object", normal), cm("B", "A", abstract), class("C", "B")), r: "C", m: "A.m()V", err: api.Abstract},
	} {
		c.ask(t, virtualIs)
	}
	i, j, k := im("I", abstract), im("J", normal), im("K", normal)
	for _, c := range []selectCase{
		{what: "2", classes: list(i, j, of(class("A", "Object"), "I", "J")), want: "J.m()V"},
		{what: "2, with K", classes: list(i, j, k, of(class("A", "Object"), "I", "J", "K")), err: api.Incompatible},
		{what: "2, with neither", classes: list(i, of(class("A", "Object"), "I")), err: api.Abstract},
		{what: "2, not Public", classes: list(i, j, of(cm("A", "Object", 0), "I", "J")), err: api.IllegalAccess},
	} {
		c.r, c.m = "A", "I.m()V"
		c.ask(t, interfaceIs)
	}
	a := class("A", "Object", method("m", normal), method("s", static), method("<init>", normal))
	w := worldOf(t, a, cm("B", "A", normal), class("C", "B"), old(class("D", "B")))
	call(t, w, "C", api.Special, "A.m()V", "C", "B.m()V", 0)
	call(t, w, "D", api.Special, "A.m()V", "D", "A.m()V", 0)
	call(t, w, "C", api.Virtual, "A.m()V", "Object", "", api.Incompatible)
	call(t, w, "C", api.Virtual, "A.<init>()V", "A", "", api.Malformed)
	call(t, w, "C", api.Special, "B.<init>()V", "B", "", api.NoSuchMethod)
	call(t, w, "C", api.Virtual, "Object.id()I", "[[int", "Object.id()I", 0)
	call(t, w, "C", api.Virtual, "A.s()V", "A", "", api.Incompatible)
	call(t, w, "C", api.StaticInv, "A.m()V", "A", "", api.Incompatible)
}
