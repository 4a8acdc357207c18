package report

import (
	"strings"
	"testing"

	"arbiter/api"
	"arbiter/hier"
)

// holdsSame holds Same both ways round against what is written out by hand, and against the second telling.
func holdsSame(t *testing.T, what string, a, b *hier.World, want bool) {
	t.Helper()
	if got := [2]bool{Same(a, b), Same(b, a)}; got != [2]bool{want, want} {
		t.Errorf("%s: Same answered %t, wanted %t", what, got, want)
	}
	if told := toldSame(a, b); told != want {
		t.Errorf("%s: told %t, wanted %t", what, told, want)
	}
}

func TestSameOfNil(t *testing.T) { // P25.4, R6
	town := loaded(t, townText())
	holdsSame(t, "nil and nil", nil, nil, true)
	for _, w := range []*hier.World{hier.New(), town, {}} {
		holdsSame(t, "nil and a world", nil, w, false)
		holdsSame(t, "one world", w, w, true)
	}
	holdsSame(t, "a new world and a town", hier.New(), town, false)
	holdsSame(t, "two new worlds", hier.New(), hier.New(), true)
}

// subject is a class with more than one of all that a class may have two of; sameRoot has what it names.
func subject() api.Class {
	code := []api.Inst{{Op: api.ILoad, N: 1}, {Op: api.New, Type: "A"}, {Op: api.InvVirtual, Ref: api.Ref{Class: "A", Name: "m", Desc: "()I"}}, {Op: api.IReturn}}
	return api.Class{Name: "p/C", Super: "A", Ifaces: []string{"I", "J"}, Flags: api.Public | api.Super, Loader: 2, Methods: []api.Method{
		{Name: "m", Desc: "(I)I", Flags: api.Public, Locals: 5, Stack: 6, Code: code},
		{Name: "n", Desc: "(I)I", Flags: api.Protected, Locals: 5, Stack: 6, Code: []api.Inst{{Op: api.Return}}},
	}}
}

func sameRoot(t *testing.T) []api.Class {
	t.Helper()
	var out []api.Class
	for _, text := range []string{example("A"), example("B"), iface("I"), iface("J"), iface("K")} {
		out = append(out, parsed(t, text))
	}
	return out
}

// turned are the subject as it is, and with one thing turned in each.
var turned = []struct {
	what string
	turn func(c *api.Class)
}{
	{"as it is", func(c *api.Class) {}},
	{"Name", func(c *api.Class) { c.Name = "p/D" }},
	{"a longer Name", func(c *api.Class) { c.Name = "p/CC" }},
	{"Super", func(c *api.Class) { c.Super = "B" }},
	{"one of Ifaces", func(c *api.Class) { c.Ifaces[1] = "K" }},
	{"fewer Ifaces", func(c *api.Class) { c.Ifaces = c.Ifaces[:1] }},
	{"no Ifaces", func(c *api.Class) { c.Ifaces = nil }},
	{"more Ifaces", func(c *api.Class) { c.Ifaces = append(c.Ifaces, "K") }},
	{"order of Ifaces", func(c *api.Class) { c.Ifaces = []string{"J", "I"} }},
	{"Flags without Super", func(c *api.Class) { c.Flags &^= api.Super }},
	{"Flags with Final", func(c *api.Class) { c.Flags |= api.Final }},
	{"Flags without Public", func(c *api.Class) { c.Flags &^= api.Public }},
	{"Loader", func(c *api.Class) { c.Loader = 3 }},
	{"fewer Methods", func(c *api.Class) { c.Methods = c.Methods[:1] }},
	{"no Methods", func(c *api.Class) { c.Methods = nil }},
	{"more Methods", func(c *api.Class) {
		c.Methods = append(c.Methods, api.Method{Name: "o", Desc: "()V", Locals: 1, Code: []api.Inst{{Op: api.Return}}})
	}},
	{"order of Methods", func(c *api.Class) { c.Methods[0], c.Methods[1] = c.Methods[1], c.Methods[0] }},
	{"a method's Name", func(c *api.Class) { c.Methods[0].Name = "o" }},
	{"the last method's Name", func(c *api.Class) { c.Methods[1].Name = "o" }},
	{"a method's Desc", func(c *api.Class) { c.Methods[0].Desc = "(I)V" }},
	{"the last method's Desc", func(c *api.Class) { c.Methods[1].Desc = "()I" }},
	{"a method's Flags", func(c *api.Class) { c.Methods[0].Flags = api.Protected }},
	{"a method's Flags, static", func(c *api.Class) { c.Methods[0].Flags |= api.Static }},
	{"a method's Locals", func(c *api.Class) { c.Methods[0].Locals = 4 }},
	{"the last method's Locals", func(c *api.Class) { c.Methods[1].Locals = 6 }},
	{"a method's Stack", func(c *api.Class) { c.Methods[0].Stack = 5 }},
	{"the last method's Stack", func(c *api.Class) { c.Methods[1].Stack = 0 }},
	{"a shorter Code", func(c *api.Class) { c.Methods[0].Code = c.Methods[0].Code[:3] }},
	{"a longer Code", func(c *api.Class) { c.Methods[0].Code = append(c.Methods[0].Code, api.Inst{Op: api.IReturn}) }},
	{"order of the Code", func(c *api.Class) {
		code := c.Methods[0].Code
		code[0], code[3] = code[3], code[0]
	}},
	{"the last method's Code", func(c *api.Class) { c.Methods[1].Code[0].Op = api.IReturn }},
	{"Op", func(c *api.Class) { c.Methods[0].Code[0].Op = api.IStore }},
	{"N", func(c *api.Class) { c.Methods[0].Code[0].N = 2 }},
	{"Type", func(c *api.Class) { c.Methods[0].Code[1].Type = "B" }},
	{"Ref.Iface", func(c *api.Class) { c.Methods[0].Code[2].Ref.Iface = true }},
	{"Ref.Class", func(c *api.Class) { c.Methods[0].Code[2].Ref.Class = "B" }},
	{"Ref.Name", func(c *api.Class) { c.Methods[0].Code[2].Ref.Name = "n" }},
	{"Ref.Desc", func(c *api.Class) { c.Methods[0].Code[2].Ref.Desc = "()V" }},
	{"Op of an invocation", func(c *api.Class) { c.Methods[0].Code[2].Op = api.InvSpecial }},
	{"Op of the last one", func(c *api.Class) { c.Methods[0].Code[3].Op = api.AReturn }},
}

// TestSameOfOneFieldTurned: each that is turned against each other one, at the end of a world and within it.
func TestSameOfOneFieldTurned(t *testing.T) { // P25.4
	build := func(at int, behind ...api.Class) *hier.World {
		c := subject()
		turned[at].turn(&c)
		return worldOf(t, append(append(sameRoot(t), c), behind...)...)
	}
	last := parsed(t, example("q/Last"))
	for at, one := range turned {
		for other, two := range turned {
			holdsSame(t, one.what+" against "+two.what, build(at), build(other), at == other)
			if got := Same(build(at, last), build(other, last)); got != (at == other) {
				t.Errorf("%s against %s: Same answered %t", one.what, two.what, got)
			}
		}
		holdsSame(t, one.what+", and one more behind it", build(at), build(at, last), false)
	}
}

// TestSameOfEmptyLists: an empty list and none are alike.
func TestSameOfEmptyLists(t *testing.T) { // P25.4, R3
	plain := api.Class{Name: "A", Super: "Object", Flags: api.AbstractFl, Methods: []api.Method{{Name: "m", Desc: "()V", Flags: api.AbstractFl}}}
	empty := plain
	empty.Ifaces, empty.Methods = []string{}, []api.Method{{Name: "m", Desc: "()V", Flags: api.AbstractFl, Code: []api.Inst{}}}
	holdsSame(t, "lists without elements", worldOf(t, plain), worldOf(t, empty), true)
	bare, bareEmpty := api.Class{Name: "A", Super: "Object"}, api.Class{Name: "A", Super: "Object", Ifaces: []string{}, Methods: []api.Method{}}
	holdsSame(t, "no methods", worldOf(t, bare), worldOf(t, bareEmpty), true)
	holdsSame(t, "no methods, and one", worldOf(t, plain), worldOf(t, bareEmpty), false)
}

func TestSameOfNumbers(t *testing.T) { // P25.4
	a, b, c := example("A"), example("p/B"), class("C", "A")
	for _, x := range []struct {
		one, other string
		want       bool
	}{
		{a + b + c, a + b + c, true}, {a + b + c, a + b, false}, {a + b + c, a, false}, {a + b + c, "", false}, {a, a + a[:0], true},
		{a + b + c, b + a + c, false}, {a + b + c, a + c + b, false}, {a + c + b, b + a + c, false}, {a + b, b + a, false}, {a, b, false},
		{strings.Join(great(), ""), strings.Join(great(), ""), true}, {strings.Join(great()[:8], ""), strings.Join(great(), ""), false},
	} {
		holdsSame(t, show(x.one)+" against "+show(x.other), loaded(t, x.one), loaded(t, x.other), x.want)
	}
	texts, _ := full()
	one, other := loaded(t, strings.Join(texts, "")), loaded(t, strings.Join(texts, ""))
	holdsSame(t, "full worlds", one, other, true)
	holdsSame(t, "full worlds but for the last", one, loaded(t, strings.Join(texts[:296], "")+example("p/B")), false)
	holdsSame(t, "full worlds but for the first", one, loaded(t, example("p/B")+strings.Join(texts[1:], "")), false)
}

// TestSameAsClassesArrive: worlds are the same just as long as the same classes have arrived.
func TestSameAsClassesArrive(t *testing.T) { // P25.4
	one, other := hier.New(), hier.New()
	all := loaded(t, townText())
	for id := 3; id < all.Len(); id++ {
		c, _ := all.Class(id)
		one.Define(c)
		holdsSame(t, "one is ahead", one, other, false)
		other.Define(c)
		holdsSame(t, "both have it", one, other, true)
	}
	holdsSame(t, "all is there", one, all, true)
}
