package link

import (
	"reflect"
	"slices"
	"testing"

	"arbiter/api"
	"arbiter/hier"
)

// worldFacts is all that a world answers about its classes, as one value that may be compared.
func worldFacts(w *hier.World) []any {
	out := []any{w.Len()}
	for id := range w.Len() {
		c, _ := w.Class(id)
		super, e := w.Super(id)
		chain, _ := w.Chain(id)
		closure, _ := w.Closure(id)
		at, _ := w.ByName(c.Name)
		out = append(out, c, super, e, chain, closure, at)
		for other := range w.Len() {
			out = append(out, w.Extends(id, other), w.SamePackage(id, other))
		}
	}
	return out
}

// writeOver writes over a list as far as its memory goes, and grows it.
func writeOver[T any](list []T, odd T) {
	whole := list[:cap(list)]
	for place := range whole {
		whole[place] = odd
	}
	_ = append(list[:len(list)/2], odd, odd, odd)
	_ = append(list, odd)
}

// listCount is how many lists tables have.
const listCount = 5

// writeOverList writes over one of the lists of tables.
func writeOverList(x api.Tables, place int) {
	odd := methodOf(-7, -8)
	switch place {
	case 0:
		writeOver(x.Slots, api.Slot{Root: odd, Method: odd})
	case 1:
		writeOver(x.Entries, api.Entry{Root: odd, Method: odd, Err: -1, Virtual: odd, VirtualErr: -2})
	case 2:
		writeOver(x.Display.Primary, -7)
	case 3:
		writeOver(x.Display.Deep, -7)
	case 4:
		writeOver(x.Display.Secondary, -7)
	}
}

// withoutList has the list of one place emptied, so that the others can be held against each other.
func withoutList(x api.Tables, place int) api.Tables {
	switch place {
	case 0:
		x.Slots = nil
	case 1:
		x.Entries = nil
	case 2:
		x.Display.Primary = nil
	case 3:
		x.Display.Deep = nil
	case 4:
		x.Display.Secondary = nil
	}
	return x
}

// memoryLinker has tables of several sizes, with all lists and with some empty.
func memoryLinker(t *testing.T) *Linker {
	t.Helper()
	classes := append(sampleClasses(), chainOf(11)...)
	return linkerOf(t, append(classes, of(class("D", "C11", method("m", api.Public)), "J", "Serializable"))...)
}

func TestTablesAreNewMemory(t *testing.T) { // R4
	l := memoryLinker(t)
	w := l.World()
	before := worldFacts(w)
	var kept, want []api.Tables // a second answer for each class, asked ahead of all that is written over
	for id := range w.Len() {
		x, _ := l.Tables(id)
		kept, want = append(kept, x), append(want, made(w, id))
	}
	for id := range w.Len() {
		for place := range listCount {
			x, _ := l.Tables(id)
			writeOverList(x, place)
			if !same(withoutList(x, place), withoutList(want[id], place)) {
				t.Errorf("writing over list %d of the tables of %d turned another into %v", place, id, x)
			}
			tablesAre(t, l, id, want[id])
		}
		for other := range w.Len() {
			tablesAre(t, l, other, want[other])
			if !same(kept[other], want[other]) {
				t.Errorf("writing over the tables of %d turned an answer about %d into %v", id, other, kept[other])
			}
		}
	}
	for id := range w.Len() {
		for place := range listCount {
			writeOverList(kept[id], place)
		}
		for other := id + 1; other < w.Len(); other++ {
			if !same(kept[other], want[other]) {
				t.Errorf("writing over one answer of %d turned one of %d into %v", id, other, kept[other])
			}
		}
	}
	if !reflect.DeepEqual(worldFacts(w), before) {
		t.Errorf("writing over answers turned the world")
	}
	if l.Builds() != w.Len() {
		t.Errorf("Builds() = %d of %d classes", l.Builds(), w.Len())
	}
}

// TestWritingOverTurnsNoOtherCall: Slot, Entry and Ask answer from the same tables.
func TestWritingOverTurnsNoOtherCall(t *testing.T) { // R4
	l := sample(t)
	for id := range sampleSize {
		x, _ := l.Tables(id)
		for place := range listCount {
			writeOverList(x, place)
		}
	}
	reads := map[api.MethodID]int{objectID: 1, methodIm: 2, methodJn: 3, methodJq: 3}
	for id, want := range sampleTables() {
		for place, s := range want.Slots {
			slotIs(t, l, id, place, s.Method)
		}
		slotRefused(t, l, api.ErrRange, id, len(want.Slots))
		for _, entry := range want.Entries {
			entryIs(t, l, id, entry, reads[entry.Root])
		}
		entryRefused(t, l, api.ErrNone, id, methodOf(-7, -8))
		asked(t, l, 2, []int{id}, sizeOf(want))
	}
	belowIs(t, l, kind(0, "B"), kind(0, "J"), true, 3)
}

func TestAskAnswersNewMemory(t *testing.T) { // R4
	l := sample(t)
	ids := []int{6, 5, -1, 0, 6}
	want := []int{15, 11, -1, 4, 15}
	kept, _ := l.Ask(ids, 2)
	again, _ := l.Ask(ids, 2)
	writeOver(again, -9)
	if !slices.Equal(kept, want) || !slices.Equal(ids, []int{6, 5, -1, 0, 6}) {
		t.Errorf("writing over one answer turned another into %v, or the list into %v", kept, ids)
	}
	asked(t, l, 2, ids, want...)
}

func TestAskLeavesTheList(t *testing.T) { // R4: spare room included
	for _, spare := range []int{0, 6, 7, -1, 99} { // what lies behind the list's length is no part of it, whatever it is
		for _, workers := range []int{1, 2, 5, 16} {
			whole := slices.Concat([]int{4, 0, -1, 4, 9}, repeated(spare, 20))
			before := slices.Clone(whole)
			l := sample(t)
			asked(t, l, workers, whole[:0])
			built(t, l)
			asked(t, l, workers, whole[:5], 3, 4, -1, 3, -1)
			built(t, l, object, ifaceJ)
			askRefused(t, l, api.ErrArg, whole[:5], 0)
			if !slices.Equal(whole, before) {
				t.Errorf("Ask turned %v into %v", before, whole)
			}
		}
	}
	whole := repeated(classB, 5000)
	l := sample(t)
	askRefused(t, l, api.ErrLarge, whole, 16)
	built(t, l)
	asked(t, l, 16, whole[:4096], repeated(15, 4096)...)
	if !slices.Equal(whole, repeated(classB, 5000)) {
		t.Errorf("Ask turned a long list")
	}
}

func TestAskKeepsNoList(t *testing.T) { // R4: it may be written over behind the call
	l := sample(t)
	ids := []int{ifaceJ, object, 99}
	kept, _ := l.Ask(ids, 2)
	copy(ids, []int{classA, classA, classA})
	if !slices.Equal(kept, []int{3, 4, -1}) {
		t.Errorf("writing over the list turned the answer into %v", kept)
	}
	built(t, l, object, ifaceJ)
	asked(t, l, 2, ids, 11, 11, 11)
}

func TestTheWorldStaysAsItWas(t *testing.T) { // R4, R5
	classes := randomClasses(5, 16)
	w := worldOf(t, classes[3:]...)
	before := worldFacts(w)
	l := newLinker(t, w)
	for id := -1; id <= w.Len(); id++ {
		l.Tables(id)
		l.Built(id)
		l.Ask([]int{id, 0}, 2)
		for n := range 9 {
			l.Slot(id, n-1)
			l.Entry(id, methodOf(n, 0))
		}
		l.Below(kind(0, "Object"), kind(1, "C0"))
	}
	if !reflect.DeepEqual(worldFacts(w), before) {
		t.Errorf("the questions have turned the world")
	}
	if id, e := w.Define(class("Later", "Object")); id != len(classes) || e != api.OK {
		t.Errorf("Define = %d, %d", id, e)
	}
}

func TestLaterClassesTurnNothing(t *testing.T) { // P0.3: what has been built, and what is built later
	classes := randomClasses(7, 30)
	w := hier.New()
	l := newLinker(t, w)
	var kept []api.Tables
	for at, c := range classes {
		if at >= 3 {
			tablesRefused(t, l, api.ErrRange, at)
			define(t, w, c)
		}
		x, e := l.Tables(at)
		if e != api.OK {
			t.Fatalf("Tables(%d): %d", at, e)
		}
		kept = append(kept, x)
	}
	later := newLinker(t, w)
	for id, was := range kept {
		tablesAre(t, l, id, was)
		tablesAre(t, later, id, was)
		tablesAre(t, l, id, made(w, id))
	}
}
