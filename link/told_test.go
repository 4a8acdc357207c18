package link

import (
	"fmt"
	"math/rand"
	"slices"
	"testing"

	"arbiter/api"
	"arbiter/display"
	"arbiter/hier"
)

// told is a linker a second time: it knows which classes are to be built by now, and works out each answer anew from the layers below.
type told struct {
	world *hier.World
	built []int // rising
}

func (x *told) isNone(id int) bool {
	return id < 0 || id >= x.world.Len()
}

// need has the whole chain of a class built.
func (x *told) need(id int) {
	chain, _ := x.world.Chain(id)
	x.built = append(x.built, chain...)
	slices.Sort(x.built)
	x.built = slices.Compact(x.built)
}

func (x *told) tables(id int) (api.Tables, api.Errno) {
	if x.isNone(id) {
		return api.Tables{}, api.ErrRange
	}
	x.need(id)
	return made(x.world, id), api.OK
}

func (x *told) ask(ids []int, workers int) ([]int, api.Errno) {
	switch {
	case workers < 1 || workers > 16:
		return nil, api.ErrArg
	case len(ids) > 4096:
		return nil, api.ErrLarge
	}
	known := map[int]int{}
	var out []int
	for _, id := range ids {
		size, there := known[id]
		if !there {
			size = -1
			if tables, e := x.tables(id); e == api.OK {
				size = sizeOf(tables)
			}
			known[id] = size
		}
		out = append(out, size)
	}
	return out, api.OK
}

func (x *told) slot(r, slot int) (api.MethodID, api.Errno) {
	if x.isNone(r) {
		return api.MethodID{}, api.ErrRange
	}
	for place, s := range made(x.world, r).Slots {
		if place == slot {
			x.need(r)
			return s.Method, api.OK
		}
	}
	return api.MethodID{}, api.ErrRange
}

func (x *told) entry(r int, m api.MethodID) (api.Entry, int, api.Errno) {
	if x.isNone(r) {
		return api.Entry{}, 0, api.ErrRange
	}
	for _, entry := range made(x.world, r).Entries {
		if entry.Root == m {
			x.need(r)
			return entry, x.reads(r, m), api.OK
		}
	}
	return api.Entry{}, 0, api.ErrNone
}

func (x *told) reads(r int, m api.MethodID) int {
	if name, _ := x.world.Class(m.Class); name.Name == "Object" {
		return 1
	}
	closure, _ := x.world.Closure(r)
	for place, iface := range closure {
		if iface == m.Class {
			return place + 1 + 1
		}
	}
	return -1
}

func pick[T any](r *rand.Rand, from ...T) T {
	return from[r.Intn(len(from))]
}

// randomMethods have few names, so that many meet, at places that turn.
func randomMethods(r *rand.Rand, inIface bool) []api.Method {
	all := []string{"m", "n", "m(I)V", "id()I", "kin()LObject;", "<init>"}
	if inIface {
		all = all[:5]
	}
	r.Shuffle(len(all), func(a, b int) { all[a], all[b] = all[b], all[a] })
	var out []api.Method
	for _, name := range all[:r.Intn(len(all)-1)] {
		flags := pick(r, api.Public, api.Public, api.Protected, 0, api.Private)
		if inIface {
			flags = pick(r, api.Public, api.Public, api.Public, api.Private)
		}
		switch r.Intn(5) {
		case 0:
			flags |= api.Static
		case 1:
			if flags != api.Private {
				flags |= api.AbstractFl
			}
		}
		if name == "<init>" {
			flags &^= api.Static | api.AbstractFl
		}
		out = append(out, method(name, flags))
	}
	return out
}

// randomClass is below one of the classes that arrived last, more often than not, so that chains grow long.
func randomClass(r *rand.Rand, n int, there []api.Class) api.Class {
	c := class(fmt.Sprint(pick(r, "", "p/", "p/", "q/"), "C", n), "Object")
	c.Loader = pick(r, 0, 0, 0, 0, 9)
	isIface := r.Intn(5) < 2
	if isIface {
		c.Flags = api.Public | api.Interface | api.AbstractFl
	}
	for range 1 + r.Intn(6) {
		above := there[max(r.Intn(len(there)), r.Intn(len(there)), r.Intn(len(there)))]
		switch {
		case above.Flags&api.Interface == 0 && !isIface:
			c.Super = above.Name
		case above.Flags&api.Interface != 0 && !slices.Contains(c.Ifaces, above.Name):
			c.Ifaces = append(c.Ifaces, above.Name)
		}
	}
	c.Methods = randomMethods(r, isIface)
	return c
}

// randomClasses begin with the three that every world has.
func randomClasses(seed int64, count int) []api.Class {
	r := rand.New(rand.NewSource(seed))
	classes := []api.Class{{Name: "Object"}, iface("Cloneable"), iface("Serializable")}
	for n := range count - len(classes) {
		classes = append(classes, randomClass(r, n, classes))
	}
	return classes
}

// randomID is the number of a class, or of none once in a while.
func (x *told) randomID(r *rand.Rand) int {
	n := x.world.Len()
	return pick(r, r.Intn(n), r.Intn(n), r.Intn(n), n-1, n-1, -1, n, n+r.Intn(3), pick(r, oddNumbers...))
}

// randomMethod is a Root of an entry of r, as often as not, else one of any class, or none.
func (x *told) randomMethod(r *rand.Rand, of int) api.MethodID {
	if entries := made(x.world, of).Entries; len(entries) > 0 && r.Intn(2) == 0 {
		return pick(r, entries...).Root
	}
	return methodOf(x.randomID(r), r.Intn(7)-1)
}

func (x *told) randomIDs(r *rand.Rand) []int {
	var out []int
	for range pick(r, 0, 1, 2, r.Intn(20), r.Intn(200), 4096, 4097) {
		out = append(out, x.randomID(r))
	}
	return out
}

func (x *told) randomType(r *rand.Rand) api.Type {
	c, _ := x.world.Class(r.Intn(x.world.Len()))
	return kind(pick(r, 0, 0, 0, 1, 2, 255, 256, -1), pick(r, c.Name, c.Name, c.Name, "", "no/Such", "1"))
}

// step asks the same of both, and holds the answers against each other.
func step(t *testing.T, r *rand.Rand, l *Linker, x *told) {
	t.Helper()
	id := x.randomID(r)
	switch r.Intn(10) {
	case 0:
		got, e := l.Tables(id)
		if want, wantErr := x.tables(id); !same(got, want) || e != wantErr {
			t.Fatalf("Tables(%d) = %v, %d, want %v, %d", id, got, e, want, wantErr)
		}
	case 1:
		ids, workers := x.randomIDs(r), pick(r, 1, 2, 16, r.Intn(20)-1)
		got, e := l.Ask(ids, workers)
		if want, wantErr := x.ask(ids, workers); !slices.Equal(got, want) || e != wantErr {
			t.Fatalf("Ask(%v, %d) = %v, %d, want %v, %d", ids, workers, got, e, want, wantErr)
		}
	case 2, 3, 4:
		slot := pick(r, r.Intn(6), r.Intn(6), r.Intn(15)-1, pick(r, oddNumbers...))
		got, e := l.Slot(id, slot)
		if want, wantErr := x.slot(id, slot); got != want || e != wantErr {
			t.Fatalf("Slot(%d, %d) = %v, %d, want %v, %d", id, slot, got, e, want, wantErr)
		}
	case 5, 6, 7:
		m := x.randomMethod(r, id)
		got, n, e := l.Entry(id, m)
		if want, reads, wantErr := x.entry(id, m); got != want || n != reads || e != wantErr {
			t.Fatalf("Entry(%d, %v) = %v, %d, %d, want %v, %d, %d", id, m, got, n, e, want, reads, wantErr)
		}
	default:
		a, b := x.randomType(r), x.randomType(r)
		got, n, e := l.Below(a, b)
		if want, reads, wantErr := display.TestTypes(x.world, a, b); got != want || n != reads || e != wantErr {
			t.Fatalf("Below(%v, %v) = %v, %d, %d, want %v, %d, %d", a, b, got, n, e, want, reads, wantErr)
		}
	}
	built(t, l, x.built...)
	for _, odd := range oddNumbers {
		if l.Built(odd) {
			t.Fatalf("Built(%d)", odd)
		}
	}
}

func TestRandomSteps(t *testing.T) { // P17.1 to P17.7, P0.3: calls, and classes that arrive between them
	for seed := range int64(60) {
		r := rand.New(rand.NewSource(seed))
		classes := randomClasses(seed, 25)
		w := worldOf(t, classes[3:3+r.Intn(20)]...)
		l, second := newLinker(t, w), &told{world: w}
		for range 80 {
			if next := w.Len(); next < len(classes) && r.Intn(6) == 0 {
				define(t, w, classes[next])
			}
			step(t, r, l, second)
		}
		if t.Failed() {
			t.Fatalf("seed %d", seed)
		}
	}
}

// TestRandomStepsHaveAllKinds: without these the random steps would show little.
func TestRandomStepsHaveAllKinds(t *testing.T) {
	var slots, noSlots, entries, noEntries, farReads, half int
	for seed := range int64(60) {
		r := rand.New(rand.NewSource(seed))
		w := worldOf(t, randomClasses(seed, 25)[3:]...)
		second := &told{world: w}
		for range 80 {
			id := r.Intn(w.Len())
			if _, e := second.slot(id, r.Intn(6)); e == api.OK {
				slots++
			} else {
				noSlots++
			}
			_, reads, e := second.entry(id, second.randomMethod(r, id))
			switch {
			case e != api.OK:
				noEntries++
			case reads > 2:
				farReads++
			default:
				entries++
			}
			if n := len(second.built); n > 3 && n < w.Len()-3 {
				half++
			}
		}
	}
	if slots < 500 || noSlots < 500 || entries < 300 || noEntries < 500 || farReads < 300 || half < 500 {
		t.Errorf("slots %d and none %d, entries %d, of them further off %d, and none %d, some built %d", slots, noSlots, entries, farReads, noEntries, half)
	}
}

func TestRandomWorlds(t *testing.T) { // P17.2 to P17.6: all questions of a world
	for seed := range int64(20) {
		classes := randomClasses(500+seed, 18)
		w := worldOf(t, classes[3:]...)
		whole, bySlot, byEntry := newLinker(t, w), newLinker(t, w), newLinker(t, w)
		for id := range w.Len() {
			want := made(w, id)
			tablesAre(t, whole, id, want)
			asked(t, whole, 2, []int{id, -1}, sizeOf(want), -1)
			for place := range len(want.Slots) + 2 {
				if got, e := bySlot.Slot(id, place); place < len(want.Slots) && (got != want.Slots[place].Method || e != api.OK) || place >= len(want.Slots) && e != api.ErrRange {
					t.Errorf("Slot(%d, %d) = %v, %d of %v", id, place, got, e, want.Slots)
				}
			}
			x := &told{world: w}
			for c := range w.Len() {
				for index := range 7 {
					m := methodOf(c, index-1)
					got, n, e := byEntry.Entry(id, m)
					if entry, reads, wantErr := x.entry(id, m); got != entry || n != reads || e != wantErr {
						t.Errorf("Entry(%d, %v) = %v, %d, %d, want %v, %d, %d", id, m, got, n, e, entry, reads, wantErr)
					}
				}
			}
		}
		if t.Failed() {
			t.Fatalf("seed %d", 500+seed)
		}
	}
}
