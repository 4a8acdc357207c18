package maxspec

import (
	"fmt"
	"math/rand"
	"slices"
	"testing"

	"arbiter/api"
	"arbiter/hier"
)

// told is a world a second time: a bare list of classes, about which the chapter's words are said anew.
type told struct {
	classes []api.Class
}

func firstClasses() []api.Class {
	object := api.Class{Name: "Object", Flags: api.Public | api.Super, Methods: []api.Method{{Name: "<init>", Desc: "()V", Flags: api.Public}, {Name: "id", Desc: "()I", Flags: api.Public}, {Name: "kin", Desc: "()LObject;", Flags: api.Protected}}}
	return []api.Class{object, iface("Cloneable"), iface("Serializable")}
}

func (w told) named(name string) int {
	return slices.IndexFunc(w.classes, func(c api.Class) bool { return c.Name == name })
}

func (w told) extends(a, b int) bool {
	if a == b {
		return true
	}
	if a == 0 {
		return false
	}
	above := append([]string{w.classes[a].Super}, w.classes[a].Ifaces...)
	return slices.ContainsFunc(above, func(name string) bool { return w.extends(w.named(name), b) })
}

// closures are told in the order of the numbers, since what a class names has arrived ahead of it.
func (w told) closures() [][]int {
	var out [][]int
	for id, c := range w.classes {
		var mine []int
		if id > 0 {
			mine = append(mine, out[w.named(c.Super)]...)
		}
		for _, name := range c.Ifaces {
			for _, above := range append(slices.Clone(out[w.named(name)]), w.named(name)) {
				if !slices.Contains(mine, above) {
					mine = append(mine, above)
				}
			}
		}
		out = append(out, mine)
	}
	return out
}

func (w told) candidates(closure []int, name, desc string) []api.MethodID {
	var out []api.MethodID
	for _, id := range closure {
		for index, m := range w.classes[id].Methods {
			if m.Name == name && m.Desc == desc && m.Flags&api.Private == 0 && m.Flags&api.Static == 0 {
				out = append(out, api.MethodID{Class: id, Index: index})
			}
		}
	}
	return out
}

func (w told) max(all []api.MethodID) []api.MethodID {
	var out []api.MethodID
	for _, i := range all {
		lower := 0
		for _, j := range all {
			if j.Class != i.Class && w.extends(j.Class, i.Class) {
				lower++
			}
		}
		if lower == 0 {
			out = append(out, i)
		}
	}
	return out
}

func (w told) one(best []api.MethodID) (api.MethodID, api.Errno) {
	var with []api.MethodID
	for _, id := range best {
		if w.classes[id.Class].Methods[id.Index].Flags&api.AbstractFl == 0 {
			with = append(with, id)
		}
	}
	if len(with) > 1 {
		return api.MethodID{}, api.Incompatible
	}
	if len(with) < 1 {
		return api.MethodID{}, api.Abstract
	}
	return with[0], api.OK
}

// questions are the names and descriptors that random methods have, and some that none has.
func questions() [][2]string {
	return [][2]string{{"m", "()V"}, {"n", "()V"}, {"m", "(I)V"}, {"id", "()I"}, {"kin", "()LObject;"}, {"<init>", "()V"}, {"none", "()V"}, {"", ""}}
}

// compare holds all calls of the package against the second telling.
func compare(t *testing.T, w *hier.World, second told) {
	t.Helper()
	closures := second.closures()
	for _, q := range questions() {
		for c := range second.classes {
			all := second.candidates(closures[c], q[0], q[1])
			best := second.max(all)
			if got, e := Candidates(w, c, q[0], q[1]); !slices.Equal(got, all) || e != api.OK {
				t.Fatalf("Candidates(%d, %v) = %v, %d, want %v", c, q, got, e, all)
			}
			if got, e := Max(w, c, q[0], q[1]); !slices.Equal(got, best) || e != api.OK {
				t.Fatalf("Max(%d, %v) = %v, %d, want %v", c, q, got, e, best)
			}
			one, oneErr := second.one(best)
			if got, e := One(w, c, q[0], q[1]); got != one || e != oneErr {
				t.Fatalf("One(%d, %v) = %v, %d, want %v, %d", c, q, got, e, one, oneErr)
			}
			some, someErr := api.MethodID{}, api.ErrNone
			if len(all) > 0 {
				some, someErr = all[0], api.OK
			}
			if got, e := Some(w, c, q[0], q[1]); got != some || e != someErr {
				t.Fatalf("Some(%d, %v) = %v, %d, want %v, %d", c, q, got, e, some, someErr)
			}
		}
		for _, odd := range append([]int{len(second.classes)}, oddNumbers...) {
			refused(t, w, api.ErrRange, odd, q[0], q[1])
		}
	}
}

func pick[T any](r *rand.Rand, from ...T) T {
	return from[r.Intn(len(from))]
}

// randomMethods have few names, so that many meet, at places that turn.
func randomMethods(r *rand.Rand, inIface bool) []api.Method {
	names := []string{"m", "n", "m(I)V", "id()I", "kin()LObject;"}
	r.Shuffle(len(names), func(a, b int) { names[a], names[b] = names[b], names[a] })
	var out []api.Method
	for _, name := range names[:2+r.Intn(len(names)-1)] {
		flags := pick(r, api.Public, api.Protected, 0, api.Private, api.Public|api.AbstractFl)
		if inIface {
			flags = pick(r, normal, normal, abstract, abstract, shut, static, shut|api.Static)
		}
		out = append(out, method(name, flags))
	}
	return out
}

// randomClass names those that arrived last somewhat more often than others, so that closures grow both deep and wide.
func randomClass(r *rand.Rand, n int, there []api.Class) api.Class {
	c := class(fmt.Sprint("C", n), "Object")
	isIface := r.Intn(3) > 0
	if isIface {
		c.Flags = api.Public | api.Interface | api.AbstractFl
	}
	for range 4 {
		above := there[pick(r, r.Intn(len(there)), max(r.Intn(len(there)), r.Intn(len(there))))]
		switch {
		case above.Flags&api.Interface == 0 && !isIface:
			c.Super = above.Name
		case above.Flags&api.Interface != 0 && !slices.Contains(c.Ifaces, above.Name):
			c.Ifaces = append(c.Ifaces, above.Name)
		}
	}
	c.Methods = randomMethods(r, isIface)
	return c
}

func randomClasses(seed int64, count int) []api.Class {
	r := rand.New(rand.NewSource(seed))
	classes := firstClasses()
	for n := range count - len(classes) {
		classes = append(classes, randomClass(r, n, classes))
	}
	return classes
}

func TestRandomWorlds(t *testing.T) { // P10.1 to P10.4
	for seed := range int64(100) {
		classes := randomClasses(seed, 20)
		compare(t, worldOf(t, classes[3:]...), told{classes})
	}
}

// TestRandomWorldsHaveAllKinds: without these the random worlds would show little.
func TestRandomWorldsHaveAllKinds(t *testing.T) {
	cut, stay, none, single, several := 0, 0, 0, 0, 0
	for seed := range int64(100) {
		second := told{randomClasses(seed, 20)}
		for _, closure := range second.closures() {
			all := second.candidates(closure, "m", "()V")
			best := second.max(all)
			if len(best) < len(all) {
				cut++
			}
			if len(best) > 1 {
				stay++
			}
			switch _, e := second.one(best); {
			case e == api.Incompatible:
				several++
			case e == api.Abstract && len(best) > 0:
				none++
			case e == api.OK && len(best) > 1:
				single++
			}
		}
	}
	if cut < 100 || stay < 100 || none < 100 || single < 50 || several < 50 {
		t.Errorf("cut down %d, several left %d, abstract alone %d, one beside abstract ones %d, too many %d", cut, stay, none, single, several)
	}
}

func TestFullWorld(t *testing.T) { // P10.1 to P10.4: as many classes as a world takes
	r := rand.New(rand.NewSource(77))
	classes := firstClasses()
	for n := range api.MaxClasses - len(classes) {
		// Of those that arrived long ago just a few are named, so that the second telling ends soon.
		recent := append(slices.Clone(classes[:3]), classes[max(3, len(classes)-25):]...)
		next := randomClass(r, n, recent)
		next.Ifaces = next.Ifaces[:min(2, len(next.Ifaces))]
		classes = append(classes, next)
	}
	w := worldOf(t, classes[3:]...)
	if w.Len() != api.MaxClasses {
		t.Fatalf("%d classes", w.Len())
	}
	second := told{classes}
	closures := second.closures()
	for c := range classes {
		all := second.candidates(closures[c], "m", "()V")
		// The closures say who extends whom among interfaces; told again by way of names that would take too long here.
		best := slices.DeleteFunc(slices.Clone(all), func(i api.MethodID) bool {
			return slices.ContainsFunc(all, func(j api.MethodID) bool { return slices.Contains(closures[j.Class], i.Class) })
		})
		if got, e := Candidates(w, c, "m", "()V"); !slices.Equal(got, all) || e != api.OK {
			t.Fatalf("Candidates(%d) = %v, %d, want %v", c, got, e, all)
		}
		if got, e := Max(w, c, "m", "()V"); !slices.Equal(got, best) || e != api.OK {
			t.Fatalf("Max(%d) = %v, %d, want %v", c, got, e, best)
		}
		one, oneErr := second.one(best)
		if got, e := One(w, c, "m", "()V"); got != one || e != oneErr {
			t.Fatalf("One(%d) = %v, %d, want %v, %d", c, got, e, one, oneErr)
		}
	}
	for _, odd := range oddNumbers {
		refused(t, w, api.ErrRange, odd, "m", "()V")
	}
}
