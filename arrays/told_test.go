package arrays

import (
	"fmt"
	"math"
	"math/rand"
	"regexp"
	"slices"
	"testing"

	"arbiter/api"
	"arbiter/hier"
)

// told is a world a second time: a bare list of classes, about which the chapter's words are said anew at each question, with one step of recursion for each dimension.
type told struct{ classes []api.Class }

func newTold(classes ...api.Class) *told {
	first := []api.Class{{Name: "Object"}, {Name: "Cloneable", Super: "Object"}, {Name: "Serializable", Super: "Object"}}
	return &told{append(first, classes...)}
}

// named answers -1, if there is no such class.
func (w *told) named(name string) int {
	return slices.IndexFunc(w.classes, func(c api.Class) bool { return c.Name == name })
}

var namePattern = regexp.MustCompile(`\A[a-zA-Z_$][a-zA-Z_$0-9]*(?:/[a-zA-Z_$][a-zA-Z_$0-9]*)*\z`)

func isSound(t api.Type) bool {
	return t.Dims >= 0 && t.Dims <= 255 && (t.Name == "" || len(t.Name) <= 60 && namePattern.MatchString(t.Name))
}

func (w *told) loaded(t api.Type) api.Errno {
	switch {
	case !isSound(t):
		return api.ErrForm
	case t.Name != "" && w.named(t.Name) < 0:
		return api.NoClassDef
	}
	return api.OK
}

func (w *told) typeOf(id int) (api.Type, api.Errno) {
	if id < 0 || id >= len(w.classes) {
		return api.Type{}, api.ErrRange
	}
	return api.Type{Dims: 0, Name: w.classes[id].Name}, api.OK
}

func (w *told) holder(t api.Type) (int, api.Errno) {
	switch e := w.loaded(t); {
	case e != api.OK:
		return 0, e
	case t == kind(0, ""):
		return 0, api.ErrArg
	case t.Dims == 0:
		return w.named(t.Name), api.OK
	}
	return 0, api.OK
}

func (w *told) sub(s, t api.Type) (bool, api.Errno) {
	if e := w.loaded(s); e != api.OK {
		return false, e
	}
	if e := w.loaded(t); e != api.OK {
		return false, e
	}
	return w.below(s, t), api.OK
}

// below has the four rules in the chapter's order.
func (w *told) below(s, t api.Type) bool {
	number := kind(0, "")
	switch {
	case s == number || t == number:
		return s == number && t == number
	case s.Dims == 0:
		return t.Dims == 0 && w.extends(s.Name, t.Name)
	case t.Dims == 0:
		return t.Name == "Object" || t.Name == "Cloneable" || t.Name == "Serializable"
	}
	s, t = kind(s.Dims-1, s.Name), kind(t.Dims-1, t.Name)
	return s == number && t == number || s != number && t != number && w.below(s, t)
}

func (w *told) extends(a, b string) bool {
	if a == b {
		return true
	}
	c := w.classes[w.named(a)]
	above := slices.Clone(c.Ifaces)
	if c.Name != "Object" {
		above = append(above, c.Super)
	}
	return slices.ContainsFunc(above, func(name string) bool { return w.extends(name, b) })
}

func (w *told) above(t api.Type) ([]api.Type, api.Errno) {
	if e := w.loaded(t); e != api.OK {
		return nil, e
	}
	return w.steps(t), api.OK
}

func (w *told) steps(t api.Type) []api.Type {
	if t == kind(0, "") {
		return nil
	}
	var out []api.Type
	if t.Dims == 0 {
		c := w.classes[w.named(t.Name)]
		if c.Name != "Object" {
			out = append(out, kind(0, c.Super))
		}
		for _, name := range c.Ifaces {
			out = append(out, kind(0, name))
		}
		return out
	}
	component := kind(t.Dims-1, t.Name)
	if component == kind(0, "") || component == kind(0, "Object") {
		return []api.Type{kind(0, "Object"), kind(0, "Cloneable"), kind(0, "Serializable")}
	}
	for _, step := range w.steps(component) {
		out = append(out, kind(step.Dims+1, step.Name))
	}
	return out
}

// oddNumbers are numbers of no class; oddTypes are types that are not sound, and sound ones that are nowhere loaded.
var oddNumbers = []int{-1, math.MinInt, math.MaxInt, -2, 300, 301, 1 << 32, -1 << 32}

func oddTypes() []api.Type {
	var out []api.Type
	for _, name := range []string{"", "Object", "no/Such", "1"} {
		for _, dims := range []int{-1, 256, 257, math.MinInt, math.MaxInt, 1 << 32, -1 << 32, 1<<32 + 1} {
			out = append(out, kind(dims, name))
		}
	}
	for _, name := range []string{"no/Such", "object", "Object2", "Objec", "p", "p/q", "1", "/", "p/", "/A", "p//A", "p/1", "[I", "LObject;", "Object;", "Object ", " ", ".", "Object\x00", "\xff", "é", repeat("n", 60), repeat("n", 61), repeat("n", 100000)} {
		for _, dims := range []int{0, 1, 2, 255} {
			out = append(out, kind(dims, name))
		}
	}
	return out
}

// typesOf are the types over int and over all classes of a world, at these Dims.
func (w *told) typesOf(dims ...int) []api.Type {
	var out []api.Type
	for _, d := range dims {
		out = append(out, kind(d, ""))
		for _, c := range w.classes {
			out = append(out, kind(d, c.Name))
		}
	}
	return out
}

// compare holds all calls of the package at these types against the second telling.
func compare(t *testing.T, w *hier.World, second *told, all []api.Type) {
	t.Helper()
	for _, s := range all {
		if got, want := Loaded(w, s), second.loaded(s); got != want {
			t.Fatalf("Loaded(%s) = %d, want %d", show(s), got, want)
		}
		got, e := Holder(w, s)
		if want, wantErr := second.holder(s); got != want || e != wantErr {
			t.Fatalf("Holder(%s) = %d, %d, want %d, %d", show(s), got, e, want, wantErr)
		}
		steps, e := Above(w, s)
		if want, wantErr := second.above(s); !slices.Equal(steps, want) || e != wantErr {
			t.Fatalf("Above(%s) = %s, %d, want %s, %d", show(s), show(steps), e, show(want), wantErr)
		}
		for _, other := range all {
			got, e := Sub(w, s, other)
			if want, wantErr := second.sub(s, other); got != want || e != wantErr {
				t.Fatalf("Sub(%s, %s) = %v, %d, want %v, %d", show(s), show(other), got, e, want, wantErr)
			}
		}
	}
	ids := slices.Clone(oddNumbers)
	for id := range len(second.classes) + 2 {
		ids = append(ids, id)
	}
	for _, id := range ids {
		got, e := TypeOf(w, id)
		if want, wantErr := second.typeOf(id); got != want || e != wantErr {
			t.Fatalf("TypeOf(%d) = %s, %d, want %s, %d", id, show(got), e, show(want), wantErr)
		}
	}
}

func pick[T any](r *rand.Rand, from []T) T {
	return from[r.Intn(len(from))]
}

// randomClass makes one that a world takes behind the classes that are told: an interface or a class, with up to four interfaces in any order.
func randomClass(r *rand.Rand, n int, ifaces, classes []string) api.Class {
	place := pick(r, []string{"", "p/", "p/q/"})
	c := class(fmt.Sprint(place, "C", n), pick(r, classes))
	if r.Intn(2) == 0 {
		c = iface(fmt.Sprint(place, "J", n))
	}
	for _, at := range r.Perm(len(ifaces))[:r.Intn(min(len(ifaces), 4)+1)] {
		c.Ifaces = append(c.Ifaces, ifaces[at])
	}
	return c
}

// randomWorld is a world of so many classes that arrived, and the same told a second time.
func randomWorld(t *testing.T, seed int64, count int) (*hier.World, *told) {
	t.Helper()
	w, second := hier.New(), newTold()
	r := rand.New(rand.NewSource(seed))
	ifaces, classes := []string{"Cloneable", "Serializable"}, []string{"Object"}
	for n := range count {
		c := randomClass(r, n, ifaces, classes)
		if n == 0 {
			c = class("I", "Object") // a class whose name is int's text
		}
		define(t, w, c)
		second.classes = append(second.classes, c)
		if c.Flags&api.Interface != 0 {
			ifaces = append(ifaces, c.Name)
		} else {
			classes = append(classes, c.Name)
		}
	}
	return w, second
}

func TestRandomWorlds(t *testing.T) { // P7.1 to P7.5
	for seed := range int64(30) {
		w, second := randomWorld(t, seed, 12)
		compare(t, w, second, second.typesOf(0, 1, 2, 3))
	}
}

func TestRandomTypes(t *testing.T) { // P7.1 to P7.5: Dims of all sizes, among types that are not sound or not loaded
	for seed := range int64(10) {
		w, second := randomWorld(t, seed, 25)
		r := rand.New(rand.NewSource(seed))
		names := []string{"", "no/Such", "1", "Object", "Cloneable", "Serializable"}
		for _, c := range second.classes {
			names = append(names, c.Name)
		}
		var all []api.Type
		for range 150 {
			dims := pick(r, []int{0, 1, 2, r.Intn(256), r.Intn(256), 253, 254, 255, 256, -1})
			all = append(all, kind(dims, pick(r, names)))
		}
		compare(t, w, second, all)
	}
}

func TestFullWorld(t *testing.T) { // P7.1 to P7.5: as many classes as a world takes
	w, second := randomWorld(t, 99, api.MaxClasses-3)
	if w.Len() != api.MaxClasses {
		t.Fatalf("Len() = %d", w.Len())
	}
	compare(t, w, second, second.typesOf(1))
	compare(t, w, second, second.typesOf(0))
}

func TestOddTypes(t *testing.T) { // P7.1 to P7.5, P0.1: types that are not sound, each beside each
	w, second := randomWorld(t, 5, 6)
	compare(t, w, second, append(oddTypes(), second.typesOf(0, 1, 255)...))
}

// met is all that is met by going up step by step from s, s itself too.
func met(t *testing.T, w *hier.World, s api.Type) map[api.Type]int {
	t.Helper()
	seen := map[api.Type]int{s: 1}
	for next := []api.Type{s}; len(next) > 0; next = next[1:] {
		steps, e := Above(w, next[0])
		if e != api.OK {
			t.Fatalf("Above(%s): %d", show(next[0]), e)
		}
		for _, step := range steps {
			if seen[step]++; seen[step] == 1 {
				next = append(next, step)
			}
		}
	}
	return seen
}

// meetAll: what is met from s, of all these types, is what s is below, and nothing else.
func meetAll(t *testing.T, w *hier.World, s api.Type, all []api.Type) {
	t.Helper()
	seen := met(t, w, s)
	for step := range seen {
		if got, e := Sub(w, s, step); !got || e != api.OK {
			t.Fatalf("%s is met from %s, but Sub = %v, %d", show(step), show(s), got, e)
		}
	}
	for _, other := range all {
		if got, e := Sub(w, s, other); got != (seen[other] > 0) || e != api.OK {
			t.Fatalf("Sub(%s, %s) = %v, %d, but it is met %d times", show(s), show(other), got, e, seen[other])
		}
	}
}

func TestAllIsMetByGoingUp(t *testing.T) { // P7.4, P7.5
	for seed := range int64(20) {
		w, second := randomWorld(t, seed, 10)
		all := second.typesOf(0, 1, 2, 3, 4)
		for _, s := range all {
			meetAll(t, w, s, all)
		}
	}
}

func TestAllIsMetFromTheGreatestDims(t *testing.T) { // P7.4, P7.5
	w, second := randomWorld(t, 3, 8)
	var dims []int
	for d := range api.MaxDims + 1 {
		dims = append(dims, d)
	}
	all := second.typesOf(dims...)
	for _, s := range second.typesOf(255, 254) {
		meetAll(t, w, s, all)
	}
}
