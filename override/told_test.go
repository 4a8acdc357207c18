package override

import (
	"fmt"
	"math/rand"
	"slices"
	"strings"
	"testing"

	"arbiter/api"
	"arbiter/hier"
)

// told is a world a second time: a bare list of classes, about which the chapter's words are said anew.
type told struct {
	classes []api.Class
	ids     []api.MethodID
	over    [][]bool // over[c][a]: whether the method at ids[c] overrides the one at ids[a]
}

func firstClasses() []api.Class {
	object := api.Class{Name: "Object", Flags: api.Public | api.Super, Methods: []api.Method{{Name: "<init>", Desc: "()V", Flags: api.Public}, {Name: "id", Desc: "()I", Flags: api.Public}, {Name: "kin", Desc: "()LObject;", Flags: api.Protected}}}
	return []api.Class{object, iface("Cloneable"), iface("Serializable")}
}

// newTold takes the classes of a world, those that are always there among them.
func newTold(classes []api.Class) *told {
	w := &told{classes: classes}
	for id, c := range classes {
		for index := range c.Methods {
			w.ids = append(w.ids, api.MethodID{Class: id, Index: index})
		}
	}
	w.over = w.tellOver()
	return w
}

func (w *told) method(id api.MethodID) (api.Method, bool) {
	if id.Class < 0 || id.Class >= len(w.classes) || id.Index < 0 || id.Index >= len(w.classes[id.Class].Methods) {
		return api.Method{}, false
	}
	return w.classes[id.Class].Methods[id.Index], true
}

func (w *told) named(name string) int {
	return slices.IndexFunc(w.classes, func(c api.Class) bool { return c.Name == name })
}

func (w *told) extends(a, b int) bool {
	if a == b {
		return true
	}
	if a == 0 {
		return false
	}
	above := append([]string{w.classes[a].Super}, w.classes[a].Ifaces...)
	return slices.ContainsFunc(above, func(name string) bool { return w.extends(w.named(name), b) })
}

func (w *told) pack(id int) string {
	words := strings.Split(w.classes[id].Name, "/")
	return fmt.Sprint(w.classes[id].Loader, " ", strings.Join(words[:len(words)-1], "/"))
}

func (w *told) plain(c, a api.MethodID) bool {
	lower, _ := w.method(c)
	upper, _ := w.method(a)
	for _, m := range []api.Method{lower, upper} {
		if m.Flags&api.Static != 0 || m.Name == "<init>" {
			return false
		}
	}
	if lower.Name != upper.Name || lower.Desc != upper.Desc || c.Class == a.Class {
		return false
	}
	if w.classes[c.Class].Flags&api.Interface != 0 || lower.Flags&api.Private != 0 || !w.extends(c.Class, a.Class) {
		return false
	}
	if w.classes[a.Class].Flags&api.Interface != 0 {
		return upper.Flags&api.Private == 0
	}
	switch upper.Flags & (api.Public | api.Protected | api.Private) {
	case api.Public, api.Protected:
		return true
	case api.Private:
		return false
	}
	return w.pack(c.Class) == w.pack(a.Class)
}

// tellOver begins with the ways of one step, and adds those by way of another method till there are no more.
func (w *told) tellOver() [][]bool {
	over := make([][]bool, len(w.ids))
	for c, id := range w.ids {
		over[c] = make([]bool, len(w.ids))
		for a, other := range w.ids {
			m, _ := w.method(id)
			over[c][a] = c == a && m.Flags&api.Static == 0 || w.plain(id, other)
		}
	}
	for more := true; more; {
		more = false
		for c := range over {
			for b := range over {
				for a := range over {
					if b != c && b != a && over[c][b] && over[b][a] && !over[c][a] {
						over[c][a], more = true, true
					}
				}
			}
		}
	}
	return over
}

func (w *told) overrides(c, a api.MethodID) bool {
	return w.over[slices.Index(w.ids, c)][slices.Index(w.ids, a)]
}

func (w *told) first(r int, a api.MethodID) (api.MethodID, api.Errno) {
	if _, is := w.method(a); !is || r < 0 || r >= len(w.classes) {
		return api.MethodID{}, api.ErrRange
	}
	for id := r; id >= 0; id = w.named(w.classes[id].Super) {
		for index := range w.classes[id].Methods {
			if m := (api.MethodID{Class: id, Index: index}); w.overrides(m, a) {
				return m, api.OK
			}
		}
	}
	return api.MethodID{}, api.ErrNone
}

func (w *told) all(a api.MethodID) []api.MethodID {
	var out []api.MethodID
	for _, c := range w.ids {
		if w.overrides(c, a) {
			out = append(out, c)
		}
	}
	return out
}

// methods are those of all classes, one beyond at both edges of each class, and such as are none.
func (w *told) methods() []api.MethodID {
	var out []api.MethodID
	for id, c := range w.classes {
		for at := range len(c.Methods) + 2 {
			out = append(out, api.MethodID{Class: id, Index: at - 1})
		}
	}
	for _, odd := range append([]int{len(w.classes)}, oddNumbers...) {
		out = append(out, api.MethodID{Class: odd}, api.MethodID{Index: odd}, api.MethodID{Class: odd, Index: odd})
	}
	return out
}

// compare holds all calls of the package at these methods against the second telling.
func compare(t *testing.T, w *hier.World, second *told, ids []api.MethodID) {
	t.Helper()
	for _, a := range ids {
		for _, c := range ids {
			_, isC := second.method(c)
			_, isA := second.method(a)
			if !isC || !isA {
				refused(t, w, api.ErrRange, c, a)
				continue
			}
			if got, e := Plain(w, c, a); got != second.plain(c, a) || e != api.OK {
				t.Fatalf("Plain(%v, %v) = %v, %d", c, a, got, e)
			}
			if got, e := Overrides(w, c, a); got != second.overrides(c, a) || e != api.OK {
				t.Fatalf("Overrides(%v, %v) = %v, %d", c, a, got, e)
			}
		}
		compareLists(t, w, second, a)
	}
}

func compareLists(t *testing.T, w *hier.World, second *told, a api.MethodID) {
	t.Helper()
	for _, r := range append([]int{len(second.classes)}, oddNumbers...) {
		firstRefused(t, w, api.ErrRange, r, a)
	}
	for r := range second.classes {
		got, e := First(w, r, a)
		if want, wantErr := second.first(r, a); got != want || e != wantErr {
			t.Fatalf("First(%d, %v) = %v, %d, want %v, %d", r, a, got, e, want, wantErr)
		}
	}
	if _, is := second.method(a); !is {
		allRefused(t, w, api.ErrRange, a)
		return
	}
	if got, e := All(w, a); !slices.Equal(got, second.all(a)) || e != api.OK {
		t.Fatalf("All(%v) = %v, %d, want %v", a, got, e, second.all(a))
	}
}

func pick[T any](r *rand.Rand, from ...T) T {
	return from[r.Intn(len(from))]
}

// randomMethods have few names, so that many meet, at places that turn.
func randomMethods(r *rand.Rand, inIface bool) []api.Method {
	names := []string{"m", "m", "m", "n", "m(I)V", "id()I", "kin()LObject;", "<init>"}
	r.Shuffle(len(names), func(a, b int) { names[a], names[b] = names[b], names[a] })
	var out []api.Method
	for _, name := range names[:2+r.Intn(len(names)-2)] {
		flags := pick(r, api.Public, api.Protected, 0, 0, 0, api.Private) | pick(r, 0, 0, 0, api.Final, api.Static, api.AbstractFl)
		if inIface {
			flags = pick(r, api.Public, api.Public, api.Public|api.AbstractFl, api.Private, api.Public|api.Static)
		}
		if name == "<init>" {
			flags &^= api.Static | api.Final | api.AbstractFl
		}
		if flags&api.AbstractFl != 0 {
			flags &^= api.Private
		}
		m := method(name, flags)
		same := func(other api.Method) bool { return other.Name == m.Name && other.Desc == m.Desc }
		if !slices.ContainsFunc(out, same) && !(inIface && name == "<init>") {
			out = append(out, m)
		}
	}
	return out
}

// randomClass is below one of the classes that arrived last, more often than not, so that chains grow long.
func randomClass(r *rand.Rand, n int, there []api.Class) api.Class {
	c := class(fmt.Sprint(pick(r, "p/", "p/", "p/", "q/", "q/", ""), "C", n), "Object")
	c.Loader = pick(r, 0, 0, 0, 0, 0, 1)
	if r.Intn(5) == 0 {
		c.Flags = api.Public | api.Interface | api.AbstractFl
	}
	isIface := c.Flags&api.Interface != 0
	for range 3 {
		above := there[max(r.Intn(len(there)), r.Intn(len(there)), r.Intn(len(there)), r.Intn(len(there)))]
		switch {
		case above.Flags&api.Interface == 0 && !isIface:
			c.Super = above.Name
		case above.Flags&api.Interface != 0 && !slices.Contains(c.Ifaces, above.Name):
			c.Ifaces = append(c.Ifaces, above.Name)
		}
	}
	c.Methods = randomMethods(r, isIface)
	return c
}

func randomClasses(seed int64, count int) []api.Class {
	r := rand.New(rand.NewSource(seed))
	classes := firstClasses()
	for n := range count - len(classes) {
		classes = append(classes, randomClass(r, n, classes))
	}
	return classes
}

func TestRandomWorlds(t *testing.T) { // P9.1 to P9.3
	for seed := range int64(60) {
		classes := randomClasses(seed, 14)
		second := newTold(classes)
		compare(t, worldOf(t, classes[3:]...), second, second.methods())
	}
}

// TestRandomWorldsHaveAllKinds: without these the random worlds would show little.
func TestRandomWorldsHaveAllKinds(t *testing.T) {
	plainly, byWay, ofIface := 0, 0, 0
	for seed := range int64(60) {
		second := newTold(randomClasses(seed, 14))
		for _, c := range second.ids {
			for _, a := range second.ids {
				switch {
				case c == a || !second.overrides(c, a):
				case !second.plain(c, a):
					byWay++
				case second.classes[a.Class].Flags&api.Interface != 0:
					ofIface++
				default:
					plainly++
				}
			}
		}
	}
	if plainly < 100 || byWay < 20 || ofIface < 20 {
		t.Errorf("plainly %d, by way of others %d, of interfaces %d", plainly, byWay, ofIface)
	}
}

func TestFullWorld(t *testing.T) { // P9.1 to P9.3: as many classes as a world takes
	classes := randomClasses(77, api.MaxClasses)
	for id := range classes {
		if id >= 3 {
			classes[id].Methods = classes[id].Methods[:min(2, len(classes[id].Methods))]
		}
	}
	second := newTold(classes)
	w := worldOf(t, classes[3:]...)
	r := rand.New(rand.NewSource(77))
	var some []api.MethodID
	for range 80 {
		some = append(some, pick(r, second.ids...))
	}
	compare(t, w, second, some)
}
