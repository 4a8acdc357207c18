package itable

import (
	"fmt"
	"math/rand"
	"slices"
	"strings"
	"testing"

	"arbiter/api"
	"arbiter/choose"
	"arbiter/hier"
)

// told is a world a second time: a bare list of classes, about which the chapters' words are said anew.
type told struct {
	classes  []api.Class
	closures [][]int
	chains   [][]int
	tables   [][]api.Entry
}

func firstClasses() []api.Class {
	object := api.Class{Name: "Object", Flags: api.Public | api.Super, Methods: []api.Method{{Name: "<init>", Desc: "()V", Flags: api.Public}, {Name: "id", Desc: "()I", Flags: api.Public}, {Name: "kin", Desc: "()LObject;", Flags: api.Protected}}}
	return list(object, iface("Cloneable"), iface("Serializable"))
}

// newTold tells chains, closures and tables in the order of the numbers, since what a class names has arrived ahead of it.
func newTold(classes []api.Class) *told {
	w := &told{classes: classes}
	for id, c := range classes {
		var mine []int
		chain := []int{id}
		if id > 0 {
			mine = append(mine, w.closures[w.named(c.Super)]...)
			chain = append(chain, w.chains[w.named(c.Super)]...)
		}
		for _, name := range c.Ifaces {
			for _, above := range append(slices.Clone(w.closures[w.named(name)]), w.named(name)) {
				if !slices.Contains(mine, above) {
					mine = append(mine, above)
				}
			}
		}
		w.closures = append(w.closures, mine)
		w.chains = append(w.chains, chain)
		w.tables = append(w.tables, w.table(id))
	}
	return w
}

func (w *told) named(name string) int {
	return slices.IndexFunc(w.classes, func(c api.Class) bool { return c.Name == name })
}

func (w *told) isNone(id int) bool {
	return id < 0 || id >= len(w.classes)
}

func (w *told) isNoMethod(m api.MethodID) bool {
	return w.isNone(m.Class) || m.Index < 0 || m.Index >= len(w.classes[m.Class].Methods)
}

func (w *told) isIface(id int) bool {
	return w.classes[id].Flags&api.Interface != 0
}

func (w *told) at(m api.MethodID) api.Method {
	return w.classes[m.Class].Methods[m.Index]
}

func (w *told) has(m api.MethodID, flag int) bool {
	return w.at(m).Flags&flag != 0
}

func (w *told) extends(a, b int) bool {
	return slices.Contains(w.chains[a], b) || slices.Contains(w.closures[a], b)
}

func (w *told) together(a, b int) bool {
	pack := func(id int) string {
		words := strings.Split(w.classes[id].Name, "/")
		return fmt.Sprint(w.classes[id].Loader, words[:len(words)-1])
	}
	return pack(a) == pack(b)
}

// own answers the methods of a class, of this Name and Desc, that have none of these flags: one or none.
func (w *told) own(id int, name, desc string, without int) []api.MethodID {
	var out []api.MethodID
	for index, m := range w.classes[id].Methods {
		if m.Name == name && m.Desc == desc && m.Flags&without == 0 {
			out = append(out, api.MethodID{Class: id, Index: index})
		}
	}
	return out
}

func (w *told) one(c int, name, desc string) (api.MethodID, api.Errno) {
	var all, best []api.MethodID
	for _, id := range w.closures[c] {
		all = append(all, w.own(id, name, desc, api.Private|api.Static)...)
	}
	for _, i := range all {
		lower := slices.ContainsFunc(all, func(j api.MethodID) bool { return j != i && w.extends(j.Class, i.Class) })
		if !lower && !w.has(i, api.AbstractFl) {
			best = append(best, i)
		}
	}
	switch len(best) {
	case 0:
		return api.MethodID{}, api.Abstract
	case 1:
		return best[0], api.OK
	}
	return api.MethodID{}, api.Incompatible
}

func (w *told) plain(c, a api.MethodID) bool {
	lower, upper := w.at(c), w.at(a)
	switch {
	case lower.Name != upper.Name || lower.Desc != upper.Desc || lower.Name == "<init>":
		return false
	case w.has(c, api.Static) || w.has(a, api.Static) || w.has(c, api.Private) || w.has(a, api.Private):
		return false
	case c.Class == a.Class || w.isIface(c.Class) || !w.extends(c.Class, a.Class):
		return false
	}
	return w.isIface(a.Class) || w.has(a, api.Public|api.Protected) || w.together(c.Class, a.Class)
}

// overrides goes from c to a by plain steps, each to a class further up the chain of c, or to a itself.
func (w *told) overrides(c, a api.MethodID) bool {
	if c == a {
		return !w.has(a, api.Static)
	}
	if w.plain(c, a) {
		return true
	}
	m := w.at(c)
	for _, id := range w.chains[c.Class][1:] {
		for _, b := range w.own(id, m.Name, m.Desc, 0) {
			if w.plain(c, b) && w.overrides(b, a) {
				return true
			}
		}
	}
	return false
}

func (w *told) orAbstract(m api.MethodID) (api.MethodID, api.Errno) {
	if w.has(m, api.AbstractFl) {
		return api.MethodID{}, api.Abstract
	}
	return m, api.OK
}

// virtual and iface are asked of Roots alone, which are neither Static nor Private.
func (w *told) virtual(r int, root api.MethodID) (api.MethodID, api.Errno) {
	for _, id := range w.chains[r] {
		for index := range w.classes[id].Methods {
			if c := (api.MethodID{Class: id, Index: index}); w.overrides(c, root) {
				return w.orAbstract(c)
			}
		}
	}
	return w.one(r, w.at(root).Name, w.at(root).Desc)
}

func (w *told) iface(r int, root api.MethodID) (api.MethodID, api.Errno) {
	for _, id := range w.chains[r] {
		for _, c := range w.own(id, w.at(root).Name, w.at(root).Desc, api.Static) {
			if !w.has(c, api.Public) {
				return api.MethodID{}, api.IllegalAccess
			}
			return w.orAbstract(c)
		}
	}
	return w.one(r, w.at(root).Name, w.at(root).Desc)
}

// table has an entry for each of the Roots: Object's id is the only one of its methods that is one.
func (w *told) table(id int) []api.Entry {
	if w.isIface(id) {
		return nil
	}
	roots := []api.MethodID{{Class: 0, Index: 1}}
	for _, above := range w.closures[id] {
		for index, m := range w.classes[above].Methods {
			if m.Flags&api.Private == 0 && m.Flags&api.Static == 0 {
				roots = append(roots, api.MethodID{Class: above, Index: index})
			}
		}
	}
	var out []api.Entry
	for _, root := range roots {
		e := api.Entry{Root: root}
		e.Method, e.Err = w.iface(id, root)
		e.Virtual, e.VirtualErr = w.virtual(id, root)
		out = append(out, e)
	}
	return out
}

func (w *told) build(id int) ([]api.Entry, api.Errno) {
	switch {
	case w.isNone(id):
		return nil, api.ErrRange
	case w.isIface(id):
		return nil, api.Incompatible
	}
	return w.tables[id], api.OK
}

func (w *told) lookup(r int, m api.MethodID) (api.Entry, api.Errno) {
	switch {
	case w.isNone(r) || w.isNoMethod(m):
		return api.Entry{}, api.ErrRange
	case w.isIface(r):
		return api.Entry{}, api.Incompatible
	}
	for _, e := range w.tables[r] {
		if e.Root == m {
			return e, api.OK
		}
	}
	return api.Entry{}, api.ErrNone
}

// numbers are those of all classes, and such as are none.
func (w *told) numbers() []int {
	var out []int
	for id := range w.classes {
		out = append(out, id)
	}
	return append(append(out, len(w.classes)), oddNumbers...)
}

// methods are those of all classes, one beyond at both edges of each class, and such as are none.
func (w *told) methods() []api.MethodID {
	var out []api.MethodID
	for id, c := range w.classes {
		for at := range len(c.Methods) + 2 {
			out = append(out, api.MethodID{Class: id, Index: at - 1})
		}
	}
	for _, odd := range append([]int{len(w.classes)}, oddNumbers...) {
		out = append(out, api.MethodID{Class: odd}, api.MethodID{Index: odd}, api.MethodID{Class: odd, Index: odd})
	}
	return out
}

// compare holds all calls of the package at these questions against the second telling, and entries against choose too.
func compare(t *testing.T, w *hier.World, second *told, ids []int, methods []api.MethodID) {
	t.Helper()
	for _, id := range ids {
		want, wantErr := second.build(id)
		got, e := Build(w, id)
		if !slices.Equal(got, want) || e != wantErr {
			t.Fatalf("Build(%d) = %v, %d, want %v, %d", id, got, e, want, wantErr)
		}
		var roots []api.MethodID
		for _, entry := range want {
			roots = append(roots, entry.Root)
			compareWithChoose(t, w, id, entry)
		}
		if got, e := Roots(w, id); !slices.Equal(got, roots) || e != wantErr {
			t.Fatalf("Roots(%d) = %v, %d, want %v, %d", id, got, e, roots, wantErr)
		}
		marksAre(t, w, id, marksOf(want), wantErr)
		for _, m := range methods {
			want, wantErr := second.lookup(id, m)
			if got, e := Lookup(w, id, m); got != want || e != wantErr {
				t.Fatalf("Lookup(%d, %v) = %v, %d, want %v, %d", id, m, got, e, want, wantErr)
			}
		}
	}
	if t.Failed() {
		t.FailNow()
	}
}

func compareWithChoose(t *testing.T, w *hier.World, id int, entry api.Entry) {
	t.Helper()
	if m, e := choose.Interface(w, id, entry.Root); m != entry.Method || e != entry.Err {
		t.Fatalf("Interface(%d, %v) = %v, %d, but the entry is %v", id, entry.Root, m, e, entry)
	}
	if m, e := choose.Virtual(w, id, entry.Root); m != entry.Virtual || e != entry.VirtualErr {
		t.Fatalf("Virtual(%d, %v) = %v, %d, but the entry is %v", id, entry.Root, m, e, entry)
	}
}

func pick[T any](r *rand.Rand, from ...T) T {
	return from[r.Intn(len(from))]
}

// randomMethods have few names, so that many meet, at places that turn.
func randomMethods(r *rand.Rand, inIface bool) []api.Method {
	all := []string{"m", "n", "m(I)V", "id()I", "kin()LObject;", "<init>"}
	if inIface {
		all = all[:5]
	}
	r.Shuffle(len(all), func(a, b int) { all[a], all[b] = all[b], all[a] })
	var out []api.Method
	for _, name := range all[:r.Intn(len(all)-1)] {
		flags := pick(r, api.Public, api.Public, api.Protected, 0, api.Private)
		if inIface {
			flags = pick(r, api.Public, api.Public, api.Public, api.Private)
		}
		switch r.Intn(5) {
		case 0:
			flags |= api.Static
		case 1:
			if flags != api.Private {
				flags |= api.AbstractFl
			}
		}
		if name == "<init>" {
			flags &^= api.Static | api.AbstractFl
		}
		out = append(out, method(name, flags))
	}
	return out
}

// randomClass is an interface as often as not, so that closures grow wide.
func randomClass(r *rand.Rand, n int, there []api.Class) api.Class {
	c := class(fmt.Sprint(pick(r, "", "p/", "p/", "q/"), "C", n), "Object")
	c.Loader = pick(r, 0, 0, 0, 0, 9)
	isIface := r.Intn(2) == 0
	if isIface {
		c.Flags = api.Public | api.Interface | api.AbstractFl
	}
	for range r.Intn(5) {
		above := there[max(r.Intn(len(there)), r.Intn(len(there)))]
		switch {
		case above.Flags&api.Interface == 0 && !isIface:
			c.Super = above.Name
		case above.Flags&api.Interface != 0 && !slices.Contains(c.Ifaces, above.Name):
			c.Ifaces = append(c.Ifaces, above.Name)
		}
	}
	c.Methods = randomMethods(r, isIface)
	return c
}

func randomClasses(seed int64, count int) []api.Class {
	r := rand.New(rand.NewSource(seed))
	classes := firstClasses()
	for n := range count - len(classes) {
		classes = append(classes, randomClass(r, n, classes))
	}
	return classes
}

func TestRandomWorlds(t *testing.T) { // P14.1 to P14.4
	for seed := range int64(100) {
		classes := randomClasses(seed, 20)
		second := newTold(classes)
		compare(t, worldOf(t, classes[3:]...), second, second.numbers(), second.methods())
	}
}

// TestRandomWorldsHaveAllKinds: without these the random worlds would show little.
func TestRandomWorldsHaveAllKinds(t *testing.T) {
	counts := map[string]int{}
	kind := func(m api.MethodID, e api.Errno, isIface func(int) bool) string {
		switch {
		case e != api.OK:
			return fmt.Sprint(int(e))
		case isIface(m.Class):
			return "default"
		}
		return "class"
	}
	for seed := range int64(100) {
		second := newTold(randomClasses(seed, 20))
		for _, table := range second.tables {
			for _, e := range table {
				text := kind(e.Method, e.Err, second.isIface) + "," + kind(e.Virtual, e.VirtualErr, second.isIface)
				if e.Err == api.OK && e.VirtualErr == api.OK && e.Method != e.Virtual {
					text += " apart"
				}
				counts[text]++
			}
		}
	}
	for _, text := range []string{"class,class", "default,default", "class,default apart", "class,23", "class,24", "22,class", "22,default", "22,23", "22,24", "23,23", "24,24", "24,default"} {
		if counts[text] < 4 {
			t.Errorf("entries of the kind %s: %d", text, counts[text])
		}
	}
}

func TestFullWorld(t *testing.T) { // P14.1 to P14.4: as many classes as a world takes
	classes := randomClasses(77, api.MaxClasses)
	second, w := newTold(classes), worldOf(t, classes[3:]...)
	r := rand.New(rand.NewSource(77))
	ids := append([]int{0, api.MaxClasses - 1}, oddNumbers...)
	for range 30 {
		ids = append(ids, r.Intn(api.MaxClasses))
	}
	var some []api.MethodID
	for range 40 {
		some = append(some, pick(r, second.methods()...))
	}
	compare(t, w, second, ids, some)
}
