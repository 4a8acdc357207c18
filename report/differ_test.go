package report

import (
	"math"
	"slices"
	"strings"
	"testing"

	"arbiter/api"
	"arbiter/hier"
	"arbiter/link"
	"arbiter/site"
)

// allKinds are the four kinds, of which the first and the last are the edges.
var allKinds = []int{api.Virtual, api.Iface, api.Special, api.StaticInv}

// oddKinds are no kinds of invocations.
var oddKinds = []int{0, 5, -1, 6, -4, math.MinInt, math.MaxInt, 1 << 32, 1<<32 + 1, -1<<32 + 4}

// ref cuts a reference's text, sound or not: p/A.m()V or p/I:m()V.
func ref(text string) api.Ref {
	at := strings.IndexAny(text, ".:")
	name, desc := text[at+1:], ""
	if end := strings.Index(name, "("); end >= 0 {
		name, desc = name[:end], name[end:]
	}
	return api.Ref{Iface: text[at] == ':', Class: text[:at], Name: name, Desc: desc}
}

func refs(texts ...string) []api.Ref {
	var out []api.Ref
	for _, text := range texts {
		out = append(out, ref(text))
	}
	return out
}

// differs holds Differ both ways round against what is written out by hand, and against the second telling.
func differs(t *testing.T, one, other string, kind int, list []api.Ref, want int) {
	t.Helper()
	a, b := linked(t, one), linked(t, other)
	for _, x := range []struct {
		a, b *link.Linker
		want int
	}{{a, b, want}, {b, a, want}, {a, a, 0}, {b, b, 0}, {a, b, want}, {a, linkerOf(t, a.World()), 0}} {
		if got, e := Differ(x.a, x.b, kind, list); got != x.want || e != api.OK {
			t.Errorf("Differ(%s, %s, %d, %v) answered %d, %d, wanted %d", show(one), show(other), kind, list, got, e, x.want)
		}
		if told, _ := toldDiffer(x.a, x.b, kind, list); told != x.want {
			t.Errorf("Differ(%s, %s, %d, %v): told %d, wanted %d", show(one), show(other), kind, list, told, x.want)
		}
	}
}

// TestDifferByAnswers: worlds of Object, Cloneable, Serializable, A, B and mostly C, in which one thing is other.
func TestDifferByAnswers(t *testing.T) { // P25.5
	a, b := class("A", "Object", five("m ()I public"), five("f ()I public static")), class("B", "A", five("m ()I public"))
	for _, x := range []struct {
		one, other string
		kind       int
		ref        string
		want       int
	}{
		// By the method's class: of five callers, for the receiver B; where B is named there is nothing else that runs.
		{a + b, a + class("B", "A"), api.Virtual, "A.m()I", 5}, {a + b, a + class("B", "A"), api.Virtual, "B.m()I", 5},
		// Not by what the method is else.
		{a + b, a + class("B", "A", six("m ()I public final")), api.Virtual, "A.m()I", 0}, {a + b, flagged("public", a) + flagged("public final", b), api.Virtual, "A.m()I", 0},
		// Not by its place: a method ahead of it turns its number alone.
		{a + b, a + class("B", "A", five("n ()I public"), five("m ()I public")), api.Virtual, "A.m()I", 0}, {a + b, class("A", "Object", five("f ()I public static"), five("m ()I public")) + b, api.Virtual, "A.m()I", 0},
		// By the error: one has one, or both have others.
		{a + b, a + flagged("public super abstract", class("B", "A", method("m ()I public abstract", ""))), api.Virtual, "A.m()I", 5},
		{a + b, class("A", "Object", five("m ()V public")) + b, api.Virtual, "A.m()I", 15},
		{class("A", "Object", five("m ()I private")) + b, class("A", "Object") + b, api.Virtual, "A.m()I", 15},
		{a + b, a + class("B", "Object", five("m ()I public")), api.Virtual, "A.m()I", 5},
		{a + b, a + class("B", "A", five("m ()I public static")), api.Virtual, "B.m()I", 5}, {a + b, a + class("B", "A", five("m ()I public static")), api.Virtual, "A.m()I", 5},
		// By the caller: the method is shut to four of five.
		{a + b, class("A", "Object", five("m ()I private")) + b, api.Virtual, "A.m()I", 4*3 + 1}, {a + b, flagged("super", by("1", class("A", "Object", five("m ()I public")))) + class("B", "Object"), api.Virtual, "A.m()I", 13},
		// The other kinds.
		{a + b, a + class("B", "A", five("f ()I public static")), api.StaticInv, "B.f()I", 5}, {a + b, class("A", "Object", five("f ()I public")) + b, api.StaticInv, "A.f()I", 5}, {a + b, class("A", "Object", five("f ()I private static")) + b, api.StaticInv, "A.f()I", 4},
		{a + b, a + class("B", "A", five("f ()I public static")), api.StaticInv, "A.f()I", 0}, {a + b, a + b, api.StaticInv, "A.m()I", 0}, {a + b, a + class("B", "A", five("m ()I public static")), api.StaticInv, "B.m()I", 5},
		{a + b + class("C", "B"), a + b + flagged("public", class("C", "B")), api.Special, "A.m()I", 3}, {a + b + class("C", "B"), a + class("B", "A") + class("C", "B"), api.Special, "A.m()I", 3}, {a + b, a + class("B", "A"), api.Special, "B.m()I", 5},
		{iface("I", five("m ()I public")) + of(class("B", "Object"), "I"), iface("I", five("m ()I public")) + of(class("B", "Object", five("m ()I public")), "I"), api.Iface, "I:m()I", 5},
		{iface("I", five("m ()I public")) + of(class("B", "Object"), "I"), iface("I", method("m ()I public abstract", "")) + of(class("B", "Object"), "I"), api.Iface, "I:m()I", 5},
		{iface("I", five("m ()I public")) + of(class("B", "Object"), "I"), iface("I", five("m ()I public")) + of(class("B", "Object", five("m ()I")), "I"), api.Iface, "I:m()I", 5},
		{iface("I", five("m ()I public")) + of(class("B", "Object"), "I"), iface("I", five("m ()I public")) + class("B", "Object"), api.Iface, "I:m()I", 5},
		{iface("I", five("m ()I public")) + of(class("B", "Object"), "I"), iface("I", five("m ()I public")) + of(class("B", "Object", five("m ()I public")), "I"), api.Special, "I:m()I", 0},
		// What is no method's name, or of the wrong kind, is one error everywhere.
		{a + b, a + class("B", "A"), api.Iface, "A.m()I", 0}, {a + b, a + class("B", "A"), api.Virtual, "A:m()I", 0}, {a + b, a + class("B", "A"), api.Virtual, "A.<init>()V", 0}, {a + b, a + class("B", "A"), api.Virtual, "No.m()I", 0},
		// Of an array type, which C is the class of.
		{a + b, a + class("B", "Object"), api.Virtual, "[LA;.id()I", 0}, {a + class("C", "Object"), a + flagged("super", by("1", class("C", "Object"))), api.Virtual, "[LC;.id()I", 4 * 3},
	} {
		differs(t, x.one, x.other, x.kind, refs(x.ref), x.want)
		differs(t, x.one, x.other, x.kind, refs(x.ref, "No.none()V", x.ref, x.ref), 3*x.want)
	}
}

// TestDifferOfOtherClasses: only what both have by one name is asked, and only classes that are no interface in both receive.
func TestDifferOfOtherClasses(t *testing.T) { // P25.5
	a, shut := class("A", "Object", five("m ()I public"), five("f ()I public static")), class("A", "Object", five("m ()I private"), five("f ()I private static"))
	more := class("B", "A") + class("C", "A") + iface("I")
	for _, x := range []struct {
		one, other string
		kind       int
		ref        string
		want       int
	}{
		// Callers: Object, Cloneable, Serializable and A, to which alone the private one is open; receivers: Object and A.
		{a + more, shut, api.Virtual, "A.m()I", 3 * 2}, {a + more, shut, api.StaticInv, "A.f()I", 3},
		// I calls, but does not receive; B calls and receives.
		{a + more, shut + iface("I"), api.Virtual, "A.m()I", 4 * 2}, {a + more, shut + class("B", "A"), api.Virtual, "A.m()I", 3*3 + 3}, {a + more, shut + iface("I"), api.StaticInv, "A.f()I", 4}, {a + more, shut + class("B", "A"), api.StaticInv, "A.f()I", 4},
		// Where B is an interface in one of both it calls, but does not receive.
		{a + more, shut + iface("B"), api.Virtual, "A.m()I", 4 * 2}, {a + more, shut + iface("B"), api.StaticInv, "A.f()I", 4},
		{a + iface("C"), a + more, api.Virtual, "A.m()I", 0}, {a + class("C", "A", five("m ()I public")), a + iface("C"), api.Virtual, "A.m()I", 0}, {a + class("C", "A", five("m ()I public")), a + class("C", "A"), api.Virtual, "A.m()I", 5},
		// What is named is not in the second world: an answer like another.
		{a + more, class("B", "Object"), api.Virtual, "A.m()I", 4 * 2}, {a + more, "", api.Virtual, "A.m()I", 3 * 1}, {a + more, "", api.StaticInv, "A.f()I", 3}, {a + more, "", api.Virtual, "Object.id()I", 0},
		{more[:0], "", api.Virtual, "A.m()I", 0},
	} {
		differs(t, x.one, x.other, x.kind, refs(x.ref), x.want)
	}
}

// TestDifferOfClassAndInterface: a method's class has its name in both worlds, whether it is an interface there or not.
func TestDifferOfClassAndInterface(t *testing.T) { // P25.5
	one := class("X", "Object", five("m ()I public"), five("f ()I public static")) + class("R", "X")
	other := iface("X", five("m ()I public"), five("f ()I public static")) + of(class("R", "Object"), "X")
	differs(t, one, other, api.Virtual, refs("R.m()I"), 0)
	differs(t, one, other, api.Special, refs("R.m()I"), 0)
	// Named by X itself the one world refuses it: for the five callers, and the receivers Object and R.
	differs(t, one, other, api.Virtual, refs("X.m()I"), 5)
	differs(t, one, other, api.Iface, refs("X:m()I"), 5)
	differs(t, one, other, api.StaticInv, refs("X.f()I"), 5)
}

// TestDifferOfUnsoundReferences: they are passed over wherever they stand.
func TestDifferOfUnsoundReferences(t *testing.T) { // P25.5, R1
	one, other := class("A", "Object", five("m ()I public"), five("f ()I public static")), class("A", "Object")
	unsound := append([]api.Ref{{}, {Class: "A"}, {Class: "A", Name: "m"}, {Class: "A", Desc: "()I"}, {Name: "m", Desc: "()I"}, {Iface: true}, {Class: "A", Name: "m", Desc: strings.Repeat("(", 1<<16)}, {Class: strings.Repeat("[", 1<<16), Name: "m", Desc: "()I"}},
		refs("A.m", "A.m()", "A.1()I", "A.<clinit>()V", "A..m()I", "A/.m()I", ".m()I", "I.m()I", "LA;.m()I", "[A.m()I", "A.m(V)I", "A.m()I ", " A.m()I", "A.m()LA", "\xff.m()I", strings.Repeat("A", 61)+".m()I", "A."+strings.Repeat("m", 61)+"()I")...)
	sound := refs("A.m()I", "A.f()I", "[LA;.id()I", strings.Repeat("A", 60)+".m()I", "A."+strings.Repeat("m", 60)+"()I")
	for _, kind := range allKinds {
		want := map[int]int{api.Virtual: 16, api.Iface: 0, api.Special: 16, api.StaticInv: 8}[kind]
		differs(t, one, other, kind, unsound, 0)
		differs(t, one, other, kind, sound, want)
		for at, bad := range unsound {
			list := append(append(append([]api.Ref{bad}, sound[:at%5]...), bad), sound[at%5:]...)
			if got, e := Differ(linked(t, one), linked(t, other), kind, append(list, bad)); got != want || e != api.OK {
				t.Errorf("Differ with %v answered %d, %d, wanted %d", show(bad.Class+bad.Name+bad.Desc), got, e, want)
			}
		}
	}
}

// TestDifferOfManyReferences: each counts each time that it stands there, up to MaxAsk.
func TestDifferOfManyReferences(t *testing.T) { // P25.5
	a, b := linked(t, class("A", "Object", five("m ()I public"), five("f ()I public static"))+iface("I", five("m ()I public"))), linked(t, class("A", "Object")+iface("I"))
	for _, x := range []struct {
		kind       int
		ref, alike string
		want       int
	}{{api.Virtual, "A.m()I", "A.id()I", 10}, {api.Iface, "I:m()I", "I:id()I", 10}, {api.Special, "A.m()I", "A.kin()LObject;", 10}, {api.StaticInv, "A.f()I", "A.none()I", 5}} {
		asked := func(want int, list []api.Ref) {
			t.Helper()
			if got, e := Differ(a, b, x.kind, list); got != want || e != api.OK {
				t.Errorf("Differ of %d references by %d = %d, %d, wanted %d", len(list), x.kind, got, e, want)
			}
		}
		asked(0, nil)
		asked(0, []api.Ref{})
		for _, n := range []int{1, 2, 3, 100, api.MaxAsk} {
			asked(n*x.want, slices.Repeat(refs(x.ref), n))
		}
		// The first and the last count as the others.
		for _, at := range []int{0, api.MaxAsk - 1} {
			list := slices.Repeat(refs(x.alike), api.MaxAsk)
			list[at] = ref(x.ref)
			asked(x.want, list)
		}
		for _, n := range []int{api.MaxAsk + 1, api.MaxAsk + 2, 2 * api.MaxAsk, 1 << 17} {
			for _, text := range []string{x.ref, x.alike, "No.m()I", "A.1()I"} {
				if got, e := Differ(a, b, x.kind, slices.Repeat(refs(text), n)); got != 0 || e != api.ErrLarge {
					t.Errorf("Differ of %d references = %d, %d", n, got, e)
				}
			}
		}
	}
}

func TestDifferErrors(t *testing.T) { // P25.5, R2, R6
	l := linked(t, townText())
	few, many := refs("A.m()I"), make([]api.Ref, api.MaxAsk+1)
	refused := func(a, b *link.Linker, kind int, list []api.Ref, want api.Errno) {
		t.Helper()
		if n, e := Differ(a, b, kind, list); n != 0 || e != want {
			t.Errorf("Differ(%t, %t, %d, %d references) = %d, %d, wanted %d", a != nil, b != nil, kind, len(list), n, e, want)
		}
	}
	for _, list := range [][]api.Ref{nil, few, many} {
		for _, kind := range append(allKinds, oddKinds...) {
			refused(nil, l, kind, list, api.ErrArg)
			refused(l, nil, kind, list, api.ErrArg)
			refused(nil, nil, kind, list, api.ErrArg)
		}
		for _, kind := range oddKinds {
			refused(l, l, kind, list, api.ErrArg)
		}
	}
	for _, kind := range allKinds {
		refused(l, l, kind, many, api.ErrLarge)
		refused(l, l, kind, few, api.OK)
	}
}

// TestNoWorlds: worlds and linkers that none made; nothing panics.
func TestNoWorlds(t *testing.T) { // P0.1
	empty := linkerOf(t, &hier.World{})
	l := linked(t, townText())
	for _, kind := range allKinds {
		for _, x := range [][2]*link.Linker{{empty, l}, {l, empty}, {empty, empty}} {
			if n, e := Differ(x[0], x[1], kind, refs("A.m()I", "Object.id()I")); n != 0 || e != api.OK {
				t.Errorf("Differ = %d, %d", n, e)
			}
		}
		for _, x := range [][2]*link.Linker{{{}, l}, {l, {}}, {{}, {}}} {
			if n, e := Differ(x[0], x[1], kind, nil); n != 0 || e != api.ErrArg {
				t.Errorf("Differ = %d, %d", n, e)
			}
		}
	}
	if s, e := World(&hier.World{}); s != "" || e != api.OK {
		t.Errorf("World = %q, %d", s, e)
	}
	if s, e := Tables(empty, 0); s != "" || e != api.ErrRange {
		t.Errorf("Tables = %q, %d", s, e)
	}
	if s, e := Tables(&link.Linker{}, 0); s != "" || e != api.ErrArg {
		t.Errorf("Tables = %q, %d", s, e)
	}
	holdsSame(t, "worlds without classes", &hier.World{}, &hier.World{}, true)
	holdsSame(t, "a world without classes", &hier.World{}, hier.New(), false)
}

// TestAnswersAreWhole: all that two answers are held against each other by, since what one reference names has one Name and one Desc in all worlds.
func TestAnswersAreWhole(t *testing.T) { // P25.5
	l := linked(t, townText())
	s := newSide(l)
	for _, x := range []struct {
		ref, recv string
		kind      int
		want      answer
	}{
		{"A.n()I", "B", api.Virtual, answer{class: "B", name: "n", desc: "()I"}}, {"A.n()I", "A", api.Virtual, answer{class: "A", name: "n", desc: "()I"}}, {"p/I:m()I", "A", api.Iface, answer{class: "p/I", name: "m", desc: "()I"}},
		{"Object.kin()LObject;", "A", api.Virtual, answer{class: "Object", name: "kin", desc: "()LObject;"}}, {"p/I:k()I", "A", api.Iface, answer{err: api.Abstract}}, {"A.f()I", "A", api.StaticInv, answer{class: "A", name: "f", desc: "()I"}},
	} {
		if got := s.call(s.site(5, x.kind, ref(x.ref)), api.Type{Name: x.recv}); got != x.want {
			t.Errorf("%s of %s: %+v, wanted %+v", x.ref, x.recv, got, x.want)
		}
	}
	// What a question costs is asked of the smallest cache there is.
	if here, e := site.New(l, 5, api.Virtual, ref("A.n()I"), capacity); here == nil || e != api.OK || capacity != 1 {
		t.Errorf("%d", e)
	}
}
