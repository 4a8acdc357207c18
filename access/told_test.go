package access

import (
	"fmt"
	"math"
	"math/rand"
	"regexp"
	"slices"
	"strings"
	"testing"

	"arbiter/api"
	"arbiter/hier"
)

// told is a world a second time: a bare list of classes, about which the chapter's words are said anew at each question.
type told struct{ classes []api.Class }

func newTold(classes ...api.Class) *told {
	object := api.Class{Name: "Object", Flags: api.Public | api.Super, Methods: []api.Method{{Name: "<init>", Flags: api.Public}, {Name: "id", Flags: api.Public}, {Name: "kin", Flags: api.Protected}}}
	return &told{append([]api.Class{object, iface("Cloneable"), iface("Serializable")}, classes...)}
}

// named answers -1, if there is no such class.
func (w *told) named(name string) int {
	return slices.IndexFunc(w.classes, func(c api.Class) bool { return c.Name == name })
}

func (w *told) isNone(ids ...int) bool {
	return slices.ContainsFunc(ids, func(id int) bool { return id < 0 || id >= len(w.classes) })
}

func (w *told) pack(id int) (int, string, api.Errno) {
	if w.isNone(id) {
		return 0, "", api.ErrRange
	}
	words := strings.Split(w.classes[id].Name, "/")
	return w.classes[id].Loader, strings.Join(words[:len(words)-1], "/"), api.OK
}

func (w *told) together(a, b int) bool {
	loaderA, nameA, _ := w.pack(a)
	loaderB, nameB, _ := w.pack(b)
	return loaderA == loaderB && nameA == nameB
}

func (w *told) extends(a, b int) bool {
	if a == b {
		return true
	}
	if a == 0 {
		return false
	}
	above := append([]string{w.classes[a].Super}, w.classes[a].Ifaces...)
	return slices.ContainsFunc(above, func(name string) bool { return w.extends(w.named(name), b) })
}

func (w *told) classOpen(d, c int) (bool, api.Errno) {
	if w.isNone(d, c) {
		return false, api.ErrRange
	}
	return w.classes[c].Flags&api.Public != 0 || w.together(c, d), api.OK
}

var namePattern = regexp.MustCompile(`\A[a-zA-Z_$][a-zA-Z_$0-9]*(?:/[a-zA-Z_$][a-zA-Z_$0-9]*)*\z`)

func (w *told) typeOpen(d int, t api.Type) (bool, api.Errno) {
	switch {
	case w.isNone(d):
		return false, api.ErrRange
	case t.Dims < 0 || t.Dims > 255 || t.Name != "" && (len(t.Name) > 60 || !namePattern.MatchString(t.Name)):
		return false, api.ErrForm
	case t.Name == "":
		return true, api.OK
	case w.named(t.Name) < 0:
		return false, api.NoClassDef
	}
	return w.classOpen(d, w.named(t.Name))
}

func (w *told) methodOpen(d int, m api.MethodID, named int) (bool, api.Errno) {
	if w.isNone(d, named, m.Class) || m.Index < 0 || m.Index >= len(w.classes[m.Class].Methods) {
		return false, api.ErrRange
	}
	c, f := m.Class, w.classes[m.Class].Methods[m.Index].Flags
	if f&api.Public != 0 {
		return true, api.OK
	}
	if f&api.Protected != 0 {
		if w.together(c, d) {
			return true, api.OK
		}
		if !w.extends(d, c) {
			return false, api.OK
		}
		if w.classes[c].Flags&api.Interface != 0 {
			return false, api.OK
		}
		return f&api.Static != 0 || w.extends(named, d) || w.extends(d, named), api.OK
	}
	if f&api.Private != 0 {
		return c == d, api.OK
	}
	return w.together(c, d), api.OK
}

// oddNumbers are numbers of no class of any world.
var oddNumbers = []int{-1, math.MinInt, math.MaxInt, -2, 300, 301, 1 << 32, -1 << 32, 1<<32 + 1}

func oddTypes() []api.Type {
	var out []api.Type
	for _, name := range []string{"", "Object", "p/E", "no/Such", "1"} {
		for _, dims := range []int{-1, 256, math.MinInt, math.MaxInt, 1 << 32, -1 << 32, 1<<32 + 1} {
			out = append(out, kind(dims, name))
		}
	}
	for _, name := range []string{"no/Such", "object", "A", "p", "p/", "/A", "p//A", "p/1", "1", "[I", "LObject;", "Lp/A;", "Object ", " ", "Object\x00", "\xff", "é", strings.Repeat("n", 60), strings.Repeat("n", 61), strings.Repeat("n", 100000)} {
		for _, dims := range []int{0, 1, 255} {
			out = append(out, kind(dims, name))
		}
	}
	return out
}

// numbers are those of all classes, one beyond, and such as are none.
func (w *told) numbers() []int {
	out := slices.Clone(oddNumbers)
	for id := range len(w.classes) + 2 {
		out = append(out, id)
	}
	return out
}

// methods are those of all classes, one beyond at both edges of each class, and such as are none.
func (w *told) methods() []api.MethodID {
	var out []api.MethodID
	for id, c := range w.classes {
		for at := range len(c.Methods) + 2 {
			out = append(out, api.MethodID{Class: id, Index: at - 1})
		}
	}
	for _, odd := range append([]int{len(w.classes)}, oddNumbers...) {
		out = append(out, api.MethodID{Class: odd}, api.MethodID{Index: odd}, api.MethodID{Class: odd, Index: odd})
	}
	return out
}

// typesOf are the types over int and over all classes, at these Dims.
func (w *told) typesOf(dims ...int) []api.Type {
	var out []api.Type
	for _, d := range dims {
		out = append(out, kind(d, ""))
		for _, c := range w.classes {
			out = append(out, kind(d, c.Name))
		}
	}
	return out
}

// compare holds all calls of the package at these questions against the second telling.
func compare(t *testing.T, w *hier.World, second *told, ids []int, methods []api.MethodID, all []api.Type) {
	t.Helper()
	for _, d := range ids {
		loader, name, e := Package(w, d)
		if wantLoader, wantName, wantErr := second.pack(d); loader != wantLoader || name != wantName || e != wantErr {
			t.Fatalf("Package(%d) = %d, %q, %d, want %d, %q, %d", d, loader, name, e, wantLoader, wantName, wantErr)
		}
		for _, c := range ids {
			got, e := ClassOpen(w, d, c)
			if want, wantErr := second.classOpen(d, c); got != want || e != wantErr {
				t.Fatalf("ClassOpen(%d, %d) = %v, %d, want %v, %d", d, c, got, e, want, wantErr)
			}
		}
		for _, of := range all {
			got, e := TypeOpen(w, d, of)
			if want, wantErr := second.typeOpen(d, of); got != want || e != wantErr {
				t.Fatalf("TypeOpen(%d, %s) = %v, %d, want %v, %d", d, show(of), got, e, want, wantErr)
			}
		}
		for _, m := range methods {
			for _, named := range ids {
				got, e := MethodOpen(w, d, m, named)
				if want, wantErr := second.methodOpen(d, m, named); got != want || e != wantErr {
					t.Fatalf("MethodOpen(%d, %v, %d) = %v, %d, want %v, %d", d, m, named, got, e, want, wantErr)
				}
			}
		}
	}
}

func pick[T any](r *rand.Rand, from []T) T {
	return from[r.Intn(len(from))]
}

// randomMethods have flags of all kinds that a method of such a class may have.
func randomMethods(r *rand.Rand, inIface bool) []api.Method {
	words := []int{api.Public, api.Protected, 0, api.Private}
	if inIface {
		words = []int{api.Public, api.Private}
	}
	var out []api.Method
	for n := range r.Intn(4) {
		out = append(out, method(fmt.Sprint("m", n), pick(r, words)|pick(r, []int{0, api.Static})))
	}
	return out
}

// randomClass names at most what is told; a world may refuse it, for what it names may be shut.
func randomClass(r *rand.Rand, n int, second *told) api.Class {
	c := api.Class{Name: fmt.Sprint(pick(r, []string{"", "p/", "q/", "p/q/"}), "C", n), Super: "Object", Flags: pick(r, []int{0, api.Public, api.Public}), Loader: pick(r, []int{0, 0, 0, 1, 9})}
	if r.Intn(4) == 0 {
		c.Flags |= api.Interface | api.AbstractFl
	}
	isIface := c.Flags&api.Interface != 0
	for range r.Intn(3) {
		above := pick(r, second.classes)
		switch {
		case above.Flags&api.Interface == 0 && !isIface:
			c.Super = above.Name
		case above.Flags&api.Interface != 0 && !slices.Contains(c.Ifaces, above.Name):
			c.Ifaces = append(c.Ifaces, above.Name)
		}
	}
	c.Methods = randomMethods(r, isIface)
	return c
}

// randomWorld is a world of so many classes, those that are always there among them, and the same told a second time.
func randomWorld(t *testing.T, seed int64, count int) (*hier.World, *told) {
	t.Helper()
	w, second := hier.New(), newTold()
	r := rand.New(rand.NewSource(seed))
	for n := 0; len(second.classes) < count; n++ {
		c := randomClass(r, n, second)
		switch _, e := w.Define(c); e {
		case api.OK:
			second.classes = append(second.classes, c)
		case api.IllegalAccess:
		default:
			t.Fatalf("Define(%s): %d", show(c), e)
		}
	}
	return w, second
}

func TestRandomWorlds(t *testing.T) { // P8.1 to P8.4
	for seed := range int64(40) {
		w, second := randomWorld(t, seed, 16)
		compare(t, w, second, second.numbers(), second.methods(), second.typesOf(0, 1, 255))
	}
}

func TestFullWorld(t *testing.T) { // P8.1 to P8.4: as many classes as a world takes
	w, second := randomWorld(t, 77, api.MaxClasses)
	r := rand.New(rand.NewSource(77))
	ids, methods := second.numbers(), second.methods()
	compare(t, w, second, ids, nil, nil)
	var few []int
	for range 60 {
		few = append(few, pick(r, ids))
	}
	var some []api.MethodID
	for range 150 {
		some = append(some, pick(r, methods))
	}
	compare(t, w, second, append(few, 0, 299, 300), some, second.typesOf(0, 2))
}

func TestOddTypes(t *testing.T) { // P8.3, P0.1
	w, second := town(t), newTold(townClasses()...)
	compare(t, w, second, second.numbers(), second.methods(), append(oddTypes(), second.typesOf(0, 1, 254, 255)...))
}
