package display

import (
	"fmt"
	"math/rand"
	"regexp"
	"slices"
	"testing"

	"arbiter/api"
	"arbiter/arrays"
	"arbiter/hier"
)

// told is a world a second time: a bare list of classes, about which the chapters' words are said anew at each question.
type told struct{ classes []api.Class }

func newTold(classes []api.Class) *told {
	return &told{append(list(api.Class{Name: "Object"}, iface("Cloneable"), iface("Serializable")), classes...)}
}

// named answers -1, if there is no such class.
func (w *told) named(name string) int {
	return slices.IndexFunc(w.classes, func(c api.Class) bool { return c.Name == name })
}

func (w *told) isNone(id int) bool {
	return id < 0 || id >= len(w.classes)
}

func (w *told) isIface(id int) bool {
	return w.classes[id].Flags&api.Interface != 0
}

// down is the chain from Object to the class, each behind its superclass.
func (w *told) down(id int) []int {
	if id == 0 {
		return []int{0}
	}
	return append(w.down(w.named(w.classes[id].Super)), id)
}

func (w *told) closure(id int) []int {
	var all, out []int
	if id > 0 {
		all = w.closure(w.named(w.classes[id].Super))
	}
	for _, name := range w.classes[id].Ifaces {
		all = append(append(all, w.closure(w.named(name))...), w.named(name))
	}
	for _, one := range all {
		if !slices.Contains(out, one) {
			out = append(out, one)
		}
	}
	return out
}

func (w *told) display(id int) (api.Display, api.Errno) {
	if w.isNone(id) {
		return api.Display{}, api.ErrRange
	}
	var d api.Display
	for depth, one := range w.down(id) {
		if depth < 8 {
			d.Primary = append(d.Primary, one)
		} else {
			d.Deep = append(d.Deep, one)
		}
	}
	d.Secondary = w.closure(id)
	return d, api.OK
}

// test says whether s extends t by the chain and the closure; the reads are told beside it, from the chapter's three cases.
func (w *told) test(s, t int) (bool, int, api.Errno) {
	if w.isNone(s) || w.isNone(t) {
		return false, 0, api.ErrRange
	}
	closure := w.closure(s)
	extends := slices.Contains(w.down(s), t) || slices.Contains(closure, t)
	switch {
	case !w.isIface(t), s == t:
		return extends, 1, api.OK
	case extends:
		return true, slices.Index(closure, t) + 1 + 1, api.OK
	}
	return false, len(closure) + 1, api.OK
}

var namePattern = regexp.MustCompile(`\A[a-zA-Z_$][a-zA-Z_$0-9]*(?:/[a-zA-Z_$][a-zA-Z_$0-9]*)*\z`)

func (w *told) loaded(t api.Type) api.Errno {
	switch {
	case t.Dims < 0 || t.Dims > 255 || t.Name != "" && (len(t.Name) > 60 || !namePattern.MatchString(t.Name)):
		return api.ErrForm
	case t.Name != "" && w.named(t.Name) < 0:
		return api.NoClassDef
	}
	return api.OK
}

func (w *told) testTypes(s, t api.Type) (bool, int, api.Errno) {
	if e := w.loaded(s); e != api.OK {
		return false, 0, e
	}
	if e := w.loaded(t); e != api.OK {
		return false, 0, e
	}
	return w.below(s, t), w.reads(s, t), api.OK
}

// below has chapter 7's rules in their order, with one step of recursion for each dimension.
func (w *told) below(s, t api.Type) bool {
	number := kind(0, "")
	switch {
	case s == number || t == number:
		return s == number && t == number
	case s.Dims == 0 && t.Dims == 0:
		extends, _, _ := w.test(w.named(s.Name), w.named(t.Name))
		return extends
	case s.Dims == 0:
		return false
	case t.Dims == 0:
		return t.Name == "Object" || t.Name == "Cloneable" || t.Name == "Serializable"
	}
	return w.below(kind(s.Dims-1, s.Name), kind(t.Dims-1, t.Name))
}

func (w *told) reads(s, t api.Type) int {
	switch {
	case s.Dims > 0 && t.Dims > 0:
		return w.reads(kind(s.Dims-1, s.Name), kind(t.Dims-1, t.Name))
	case s.Dims > 0 || t.Dims > 0 || s.Name == "" || t.Name == "":
		return 1
	}
	_, reads, _ := w.test(w.named(s.Name), w.named(t.Name))
	return reads
}

func (w *told) deepest() int {
	var depths []int
	for id := range w.classes {
		depths = append(depths, len(w.down(id))-1)
	}
	return slices.Max(depths)
}

// numbers are those of all classes, and such as are none.
func (w *told) numbers() []int {
	var out []int
	for id := range w.classes {
		out = append(out, id)
	}
	return append(append(out, len(w.classes)), oddNumbers...)
}

// typesOf are the types over int and over all classes of a world, at these Dims.
func (w *told) typesOf(dims ...int) []api.Type {
	var out []api.Type
	for _, d := range dims {
		out = append(out, kind(d, ""))
		for _, c := range w.classes {
			out = append(out, kind(d, c.Name))
		}
	}
	return out
}

// compare holds all calls of the package against the second telling, and against Extends and Sub.
func compare(t *testing.T, w *hier.World, second *told, ids []int, all []api.Type) {
	t.Helper()
	for _, id := range ids {
		got, e := Build(w, id)
		if want, wantErr := second.display(id); !same(got, want) || e != wantErr {
			t.Fatalf("Build(%d) = %v, %d, want %v, %d", id, got, e, want, wantErr)
		}
		for _, other := range ids {
			compareTest(t, w, second, id, other)
		}
	}
	for _, s := range all {
		for _, other := range all {
			compareTypes(t, w, second, s, other)
		}
	}
	deepestIs(t, w, second.deepest())
}

func compareTest(t *testing.T, w *hier.World, second *told, a, b int) {
	t.Helper()
	got, n, e := Test(w, a, b)
	if want, reads, wantErr := second.test(a, b); got != want || n != reads || e != wantErr {
		t.Fatalf("Test(%d, %d) = %v, %d, %d, want %v, %d, %d", a, b, got, n, e, want, reads, wantErr)
	}
	if extends := w.Extends(a, b); extends != got {
		t.Fatalf("Test(%d, %d) = %v, but Extends = %v", a, b, got, extends)
	}
}

func compareTypes(t *testing.T, w *hier.World, second *told, a, b api.Type) {
	t.Helper()
	got, n, e := TestTypes(w, a, b)
	if want, reads, wantErr := second.testTypes(a, b); got != want || n != reads || e != wantErr {
		t.Fatalf("TestTypes(%v, %v) = %v, %d, %d, want %v, %d, %d", a, b, got, n, e, want, reads, wantErr)
	}
	if below, subErr := arrays.Sub(w, a, b); below != got || subErr != e {
		t.Fatalf("TestTypes(%v, %v) = %v, %d, but Sub = %v, %d", a, b, got, e, below, subErr)
	}
}

func pick[T any](r *rand.Rand, from ...T) T {
	return from[r.Intn(len(from))]
}

// randomClass is an interface, or below one of the classes that arrived last, more often than not, so that chains grow long.
func randomClass(r *rand.Rand, n int, ifaces, classes []string) api.Class {
	place := pick(r, "", "p/", "p/q/")
	c := class(fmt.Sprint(place, "C", n), classes[max(r.Intn(len(classes)), r.Intn(len(classes)), r.Intn(len(classes)))])
	if r.Intn(4) == 0 {
		c = iface(fmt.Sprint(place, "J", n))
	}
	for _, at := range r.Perm(len(ifaces))[:pick(r, 0, 0, 1, 2)] {
		c.Ifaces = append(c.Ifaces, ifaces[at])
	}
	return c
}

func randomClasses(seed int64, count int) []api.Class {
	r := rand.New(rand.NewSource(seed))
	out := list(class("I", "Object")) // a class whose name is int's text
	ifaces, classes := []string{"Cloneable", "Serializable"}, []string{"Object", "I"}
	for len(out) < count {
		c := randomClass(r, len(out), ifaces, classes)
		out = append(out, c)
		if c.Flags&api.Interface != 0 {
			ifaces = append(ifaces, c.Name)
		} else {
			classes = append(classes, c.Name)
		}
	}
	return out
}

func TestRandomWorlds(t *testing.T) { // P15.1 to P15.4
	for seed := range int64(40) {
		classes := randomClasses(seed, 24)
		second := newTold(classes)
		compare(t, worldOf(t, classes...), second, second.numbers(), second.typesOf(0, 1, 2))
	}
}

// TestRandomWorldsHaveAllKinds: without these the random worlds would show little.
func TestRandomWorldsHaveAllKinds(t *testing.T) {
	var deep, missed, lacked, found, notFound, last int
	for seed := range int64(40) {
		second := newTold(randomClasses(seed, 24))
		for s := range second.classes {
			for other := range second.classes {
				chain, closure, depth := second.down(s), second.closure(s), len(second.down(other))-1
				below, _, _ := second.test(s, other)
				switch {
				case second.isIface(other) && below && len(closure) > 0 && closure[len(closure)-1] == other:
					last++
				case second.isIface(other) && below:
					found++
				case second.isIface(other) && len(closure) > 0:
					notFound++
				case second.isIface(other):
				case depth >= len(chain):
					lacked++
				case below && depth >= 8:
					deep++
				case !below && depth >= 8:
					missed++
				}
			}
		}
	}
	if deep < 50 || missed < 20 || lacked < 500 || found < 200 || notFound < 200 || last < 100 {
		t.Errorf("in Deep %d, another in Deep %d, a depth that is not there %d, in Secondary %d, last there %d, not there %d", deep, missed, lacked, found, last, notFound)
	}
}

func TestRandomTypes(t *testing.T) { // P15.3: Dims of all sizes, among types that are not sound or not loaded
	for seed := range int64(10) {
		classes := randomClasses(200+seed, 25)
		r := rand.New(rand.NewSource(seed))
		names := []string{"", "", "no/Such", "1", "Object", "Cloneable", "Serializable"}
		for _, c := range classes {
			names = append(names, c.Name)
		}
		var all []api.Type
		for range 150 {
			all = append(all, kind(pick(r, 0, 1, 2, r.Intn(256), r.Intn(256), 253, 254, 255, 256, -1), pick(r, names...)))
		}
		compare(t, worldOf(t, classes...), newTold(classes), nil, all)
	}
}

func TestOddTypes(t *testing.T) { // P15.3, P0.1: types at fault, each beside each
	classes := randomClasses(5, 8)
	second := newTold(classes)
	compare(t, worldOf(t, classes...), second, nil, append(append(unsound(), absent()...), second.typesOf(0, 1, 255)...))
}

func TestFullWorld(t *testing.T) { // P15.1 to P15.4: as many classes as a world takes
	classes := randomClasses(77, api.MaxClasses-3)
	w, second := worldOf(t, classes...), newTold(classes)
	if w.Len() != api.MaxClasses {
		t.Fatalf("Len() = %d", w.Len())
	}
	r := rand.New(rand.NewSource(77))
	var some []int
	var all []api.Type
	for range 60 {
		some = append(some, pick(r, second.numbers()...))
		all = append(all, pick(r, second.typesOf(0, 1)...))
	}
	compare(t, w, second, some, all)
}
