package vtable

import (
	"fmt"
	"math/rand"
	"slices"
	"strings"
	"testing"

	"arbiter/api"
	"arbiter/hier"
	"arbiter/override"
)

// told is a world a second time: a bare list of classes, about which the chapters' words are said anew.
type told struct {
	classes []api.Class
	chains  [][]int
	tables  [][]api.Slot
	asked   map[[2]api.MethodID]bool // what overrides has been asked, and what it answered
}

func firstClasses() []api.Class {
	object := api.Class{Name: "Object", Flags: api.Public | api.Super, Methods: []api.Method{{Name: "<init>", Desc: "()V", Flags: api.Public}, {Name: "id", Desc: "()I", Flags: api.Public}, {Name: "kin", Desc: "()LObject;", Flags: api.Protected}}}
	return list(object, iface("Cloneable"), iface("Serializable"))
}

// newTold tells chains and tables in the order of the numbers, since what a class names has arrived ahead of it.
func newTold(classes []api.Class) *told {
	w := &told{classes: classes, asked: map[[2]api.MethodID]bool{}}
	for id, c := range classes {
		chain := []int{id}
		if id > 0 {
			chain = append(chain, w.chains[w.named(c.Super)]...)
		}
		w.chains = append(w.chains, chain)
		w.tables = append(w.tables, w.table(id))
	}
	return w
}

func (w *told) named(name string) int {
	return slices.IndexFunc(w.classes, func(c api.Class) bool { return c.Name == name })
}

func (w *told) isNone(id int) bool {
	return id < 0 || id >= len(w.classes)
}

func (w *told) isNoMethod(m api.MethodID) bool {
	return w.isNone(m.Class) || m.Index < 0 || m.Index >= len(w.classes[m.Class].Methods)
}

func (w *told) isIface(id int) bool {
	return w.classes[id].Flags&api.Interface != 0
}

func (w *told) at(m api.MethodID) api.Method {
	return w.classes[m.Class].Methods[m.Index]
}

func (w *told) has(m api.MethodID, flag int) bool {
	return w.at(m).Flags&flag != 0
}

func (w *told) together(a, b int) bool {
	pack := func(id int) string {
		words := strings.Split(w.classes[id].Name, "/")
		return fmt.Sprint(w.classes[id].Loader, words[:len(words)-1])
	}
	return pack(a) == pack(b)
}

// plain is asked of methods of classes alone: an interface's has no slot.
func (w *told) plain(c, a api.MethodID) bool {
	lower, upper := w.at(c), w.at(a)
	switch {
	case lower.Name != upper.Name || lower.Desc != upper.Desc || lower.Name == "<init>":
		return false
	case w.has(c, api.Static) || w.has(a, api.Static) || w.has(c, api.Private) || w.has(a, api.Private):
		return false
	case c.Class == a.Class || !slices.Contains(w.chains[c.Class], a.Class):
		return false
	}
	return w.has(a, api.Public|api.Protected) || w.together(c.Class, a.Class)
}

// overrides goes from c to a by plain steps, each to a class further up the chain of c.
func (w *told) overrides(c, a api.MethodID) bool {
	if c == a {
		return !w.has(a, api.Static)
	}
	key := [2]api.MethodID{c, a}
	if answer, there := w.asked[key]; there {
		return answer
	}
	answer := w.plain(c, a)
	for _, id := range w.chains[c.Class][1:] {
		for index := range w.classes[id].Methods {
			b := api.MethodID{Class: id, Index: index}
			answer = answer || w.plain(c, b) && w.overrides(b, a)
		}
	}
	w.asked[key] = answer
	return answer
}

func (w *told) isVirtual(m api.MethodID) bool {
	return !w.isIface(m.Class) && !w.has(m, api.Static) && !w.has(m, api.Private) && w.at(m).Name != "<init>"
}

// table has the two parts of P13.1, one behind the other.
func (w *told) table(id int) []api.Slot {
	if w.isIface(id) {
		return nil
	}
	var out, above []api.Slot
	if id > 0 {
		above = w.tables[w.chains[id][1]]
	}
	for _, s := range above {
		for index := range w.classes[id].Methods {
			if own := (api.MethodID{Class: id, Index: index}); w.overrides(own, s.Root) {
				s.Method = own
			}
		}
		out = append(out, s)
	}
	for index := range w.classes[id].Methods {
		own := api.MethodID{Class: id, Index: index}
		overridesOne := slices.ContainsFunc(above, func(s api.Slot) bool { return w.overrides(own, s.Root) })
		if w.isVirtual(own) && !((w.has(own, api.Public) || w.has(own, api.Protected)) && overridesOne) {
			out = append(out, api.Slot{Root: own, Method: own})
		}
	}
	return out
}

func (w *told) build(id int) ([]api.Slot, api.Errno) {
	switch {
	case w.isNone(id):
		return nil, api.ErrRange
	case w.isIface(id):
		return nil, api.Incompatible
	}
	return w.tables[id], api.OK
}

func (w *told) slotOf(m api.MethodID) (int, api.Errno) {
	switch {
	case w.isNoMethod(m):
		return 0, api.ErrRange
	case !w.isVirtual(m):
		return 0, api.ErrNone
	}
	place := -1
	for at, s := range w.tables[m.Class] {
		if s.Root == m {
			return at, api.OK
		}
		if s.Method == m && place < 0 {
			place = at
		}
	}
	return place, api.OK
}

func (w *told) selects(r int, m api.MethodID) (api.MethodID, api.Errno) {
	switch {
	case w.isNone(r) || w.isNoMethod(m):
		return api.MethodID{}, api.ErrRange
	case w.isIface(r):
		return api.MethodID{}, api.Incompatible
	case !w.isVirtual(m) || !slices.Contains(w.chains[r], m.Class):
		return api.MethodID{}, api.ErrNone
	}
	place, _ := w.slotOf(m)
	return w.tables[r][place].Method, api.OK
}

// numbers are those of all classes, and such as are none.
func (w *told) numbers() []int {
	var out []int
	for id := range w.classes {
		out = append(out, id)
	}
	return append(append(out, len(w.classes)), oddNumbers...)
}

// methods are those of all classes, one beyond at both edges of each class, and such as are none.
func (w *told) methods() []api.MethodID {
	var out []api.MethodID
	for id, c := range w.classes {
		for at := range len(c.Methods) + 2 {
			out = append(out, api.MethodID{Class: id, Index: at - 1})
		}
	}
	for _, odd := range append([]int{len(w.classes)}, oddNumbers...) {
		out = append(out, api.MethodID{Class: odd}, api.MethodID{Index: odd}, api.MethodID{Class: odd, Index: odd})
	}
	return out
}

// compare holds all calls of the package against the second telling, and Select against override.First too.
func compare(t *testing.T, w *hier.World, second *told, methods []api.MethodID) {
	t.Helper()
	for _, id := range second.numbers() {
		want, wantErr := second.build(id)
		if got, e := Build(w, id); !slices.Equal(got, want) || e != wantErr {
			t.Fatalf("Build(%d) = %v, %d, want %v, %d", id, got, e, want, wantErr)
		}
		if got, e := Size(w, id); got != len(want) || e != wantErr {
			t.Fatalf("Size(%d) = %d, %d, want %d, %d", id, got, e, len(want), wantErr)
		}
	}
	for _, m := range methods {
		want, wantErr := second.slotOf(m)
		if got, e := SlotOf(w, m); got != want || e != wantErr {
			t.Fatalf("SlotOf(%v) = %d, %d, want %d, %d", m, got, e, want, wantErr)
		}
		for _, r := range second.numbers() {
			compareSelect(t, w, second, r, m)
		}
	}
}

func compareSelect(t *testing.T, w *hier.World, second *told, r int, m api.MethodID) {
	t.Helper()
	got, e := Select(w, r, m)
	if want, wantErr := second.selects(r, m); got != want || e != wantErr {
		t.Fatalf("Select(%d, %v) = %v, %d, want %v, %d", r, m, got, e, want, wantErr)
	}
	if e != api.OK {
		return
	}
	if first, firstErr := override.First(w, r, m); first != got || firstErr != api.OK {
		t.Fatalf("Select(%d, %v) = %v, but First = %v, %d", r, m, got, first, firstErr)
	}
}

func pick[T any](r *rand.Rand, from ...T) T {
	return from[r.Intn(len(from))]
}

// randomMethods have few names, so that many meet, at places that turn.
func randomMethods(r *rand.Rand, inIface bool) []api.Method {
	names := []string{"m", "m", "m", "n", "m(I)V", "id()I", "kin()LObject;", "<init>"}
	r.Shuffle(len(names), func(a, b int) { names[a], names[b] = names[b], names[a] })
	var out []api.Method
	for _, name := range names[:2+r.Intn(len(names)-2)] {
		flags := pick(r, api.Public, api.Protected, 0, 0, 0, api.Private) | pick(r, 0, 0, 0, api.Final, api.Static, api.AbstractFl)
		if inIface {
			flags = pick(r, api.Public, api.Public, api.Public|api.AbstractFl, api.Private, api.Public|api.Static)
		}
		if name == "<init>" {
			flags &^= api.Static | api.Final | api.AbstractFl
		}
		if flags&api.AbstractFl != 0 {
			flags &^= api.Private
		}
		m := method(name, flags)
		same := func(other api.Method) bool { return other.Name == m.Name && other.Desc == m.Desc }
		if !slices.ContainsFunc(out, same) && !(inIface && name == "<init>") {
			out = append(out, m)
		}
	}
	return out
}

// randomClass is below one of the classes that arrived last, more often than not, so that chains grow long.
func randomClass(r *rand.Rand, n int, there []api.Class) api.Class {
	c := class(fmt.Sprint(pick(r, "p/", "p/", "p/", "q/", "q/", ""), "C", n), "Object")
	c.Loader = pick(r, 0, 0, 0, 0, 0, 1)
	if r.Intn(5) == 0 {
		c.Flags = api.Public | api.Interface | api.AbstractFl
	}
	isIface := c.Flags&api.Interface != 0
	for range 3 {
		above := there[max(r.Intn(len(there)), r.Intn(len(there)), r.Intn(len(there)), r.Intn(len(there)))]
		switch {
		case above.Flags&api.Interface == 0 && !isIface:
			c.Super = above.Name
		case above.Flags&api.Interface != 0 && !slices.Contains(c.Ifaces, above.Name):
			c.Ifaces = append(c.Ifaces, above.Name)
		}
	}
	c.Methods = randomMethods(r, isIface)
	return c
}

func randomClasses(seed int64, count int) []api.Class {
	r := rand.New(rand.NewSource(seed))
	classes := firstClasses()
	for n := range count - len(classes) {
		classes = append(classes, randomClass(r, n, classes))
	}
	return classes
}

func TestRandomWorlds(t *testing.T) { // P13.1 to P13.4
	for seed := range int64(60) {
		classes := randomClasses(seed, 14)
		second := newTold(classes)
		compare(t, worldOf(t, classes[3:]...), second, second.methods())
	}
}

// TestRandomWorldsHaveAllKinds: without these the random worlds would show little.
func TestRandomWorldsHaveAllKinds(t *testing.T) {
	several, both, others, kept, turned := 0, 0, 0, 0, 0
	for seed := range int64(60) {
		second := newTold(randomClasses(seed, 14))
		for id, table := range second.tables {
			for index := range second.classes[id].Methods {
				own := api.MethodID{Class: id, Index: index}
				held := 0
				for _, s := range table {
					if s.Method == own {
						held++
					}
				}
				isRoot := slices.Contains(table, api.Slot{Root: own, Method: own})
				switch {
				case isRoot && held > 1:
					both++
				case !isRoot && held > 1:
					several++
				case !isRoot && held == 1:
					others++
				}
			}
			for _, s := range table {
				switch {
				case s.Root.Class == id:
				case s.Method.Class == id:
					turned++
				default:
					kept++
				}
			}
		}
	}
	if several < 20 || both < 20 || others < 100 || kept < 100 || turned < 100 {
		t.Errorf("in several slots of others %d, in others' and its own %d, in another's %d, slots kept %d, turned %d", several, both, others, kept, turned)
	}
}

func TestTablesBeginWithTheRootsAbove(t *testing.T) { // what follows
	for seed := range int64(40) {
		classes := randomClasses(500+seed, 20)
		w := worldOf(t, classes[3:]...)
		for id := 1; id < w.Len(); id++ {
			if w.IsIface(id) {
				continue
			}
			super, _ := w.Super(id)
			above, _ := Build(w, super)
			table, e := Build(w, id)
			if e != api.OK || len(table) < len(above) {
				t.Fatalf("Build(%d) = %v, %d, above it %v", id, table, e, above)
			}
			for at, s := range above {
				if table[at].Root != s.Root {
					t.Errorf("slot %d of %d has the Root %v, above it %v", at, id, table[at].Root, s.Root)
				}
			}
		}
	}
}

func TestFullWorld(t *testing.T) { // P13.1 to P13.4: as many classes as a world takes
	classes := randomClasses(77, api.MaxClasses)
	for id := range classes {
		if id >= 3 {
			classes[id].Methods = classes[id].Methods[:min(2, len(classes[id].Methods))]
		}
	}
	second := newTold(classes)
	r := rand.New(rand.NewSource(77))
	var some []api.MethodID
	for range 40 {
		some = append(some, pick(r, second.methods()...))
	}
	compare(t, worldOf(t, classes[3:]...), second, some)
}
