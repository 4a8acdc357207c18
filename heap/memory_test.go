package heap

import (
	"reflect"
	"slices"
	"testing"

	"arbiter/api"
	"arbiter/hier"
)

// worldFacts is all that a world answers about its classes, as one value that may be compared.
func worldFacts(w *hier.World) []any {
	out := []any{w.Len()}
	for id := range w.Len() {
		c, _ := w.Class(id)
		super, e := w.Super(id)
		closure, _ := w.Closure(id)
		at, _ := w.ByName(c.Name)
		out = append(out, c, super, e, closure, at)
	}
	return out
}

func TestMultiLeavesTheCounts(t *testing.T) { // R4: spare room included
	for _, spare := range []int{0, 1, 3, -1, greatest} { // what lies behind the list's length is no part of it, whatever it is
		for _, c := range []struct {
			kind   api.Type
			counts []int
			e      api.Errno
		}{
			{intGrid, []int{2, 3}, api.OK}, {kind(4, "A"), []int{2, 2}, api.OK}, {kind(255, ""), []int{1}, api.OK}, {intCube, []int{0, 7, 9}, api.OK},
			{intGrid, nil, api.ErrArg}, {intArray, []int{1, 1}, api.ErrArg}, {intType, []int{1}, api.ErrArg}, {intGrid, []int{2, -3}, api.NegativeSize},
			{intGrid, []int{1000, 1}, api.OutOfMemory}, {kind(-1, ""), []int{1}, api.ErrForm}, {kind(1, "no/Such"), []int{1}, api.NoClassDef},
		} {
			whole := append(slices.Clone(c.counts), repeated(spare, 10)...)
			before := slices.Clone(whole)
			bare, roomy := sample(t), sample(t)
			_, e := bare.Multi(c.kind, slices.Clip(slices.Clone(c.counts)))
			_, f := roomy.Multi(c.kind, whole[:len(c.counts)])
			if e != c.e || f != c.e || !reflect.DeepEqual(facts(t, bare), facts(t, roomy)) {
				t.Errorf("Multi(%v, %v) = %d, with spare room %d, want %d", c.kind, c.counts, e, f, c.e)
			}
			if !slices.Equal(whole, before) {
				t.Errorf("Multi(%v, %v) turned %v into %v", c.kind, c.counts, before, whole)
			}
		}
	}
}

func TestMultiKeepsNoCounts(t *testing.T) { // R4: the list may be written over behind the call, and the heap leaves it alone
	h := sample(t)
	counts := append(make([]int, 0, 10), 2, 3)
	if made, e := h.Multi(intGrid, counts); made != 1 || e != api.OK {
		t.Fatalf("Multi = %d, %d", made, e)
	}
	before := facts(t, h)
	whole := counts[:10]
	for at := range whole {
		whole[at] = 99
	}
	if !reflect.DeepEqual(facts(t, h), before) {
		t.Errorf("writing over the counts turned the heap")
	}
	for number := 1; number <= 3; number++ {
		n, _ := h.Length(number)
		for i := range n {
			h.Set(number, i, api.Value{Ref: number == 1})
		}
	}
	if !slices.Equal(whole, repeated(99, 10)) {
		t.Errorf("setting elements turned the counts into %v", whole)
	}
}

func TestNilAndEmptyCounts(t *testing.T) { // R3: the same thing
	h := sample(t)
	for _, counts := range [][]int{nil, {}, make([]int, 0, 5)} {
		refusesMulti(t, h, api.ErrArg, intGrid, counts...)
	}
}

func TestTheWorldStaysAsItWas(t *testing.T) { // R4, R5: and the linker has built nothing
	l := linkerOf(t, sampleClasses()...)
	before := worldFacts(l.World())
	h := newHeap(t, l)
	for id := -1; id <= sampleSize; id++ {
		h.Object(id)
		h.Array(kind(id, "A"), id)
		h.Multi(kind(id, "I"), []int{2, 1})
		for at := range 4 {
			h.TypeOf(id)
			h.Length(id)
			h.Get(id, at-1)
			h.Set(id, at-1, to(at))
			h.Set(id, at-1, number(at))
		}
	}
	if !reflect.DeepEqual(worldFacts(l.World()), before) {
		t.Errorf("the heap has turned the world")
	}
	if l.Builds() != 0 {
		t.Errorf("the heap has had %d classes' tables built", l.Builds())
	}
	if id, e := l.World().Define(class("Later", "Object")); id != sampleSize || e != api.OK {
		t.Errorf("Define = %d, %d", id, e)
	}
}

func TestLaterClassesTurnNothing(t *testing.T) { // P0.3
	l := linkerOf(t, sampleClasses()...)
	h := newHeap(t, l)
	b, c := makesObject(t, h, classB), makesObject(t, h, classC)
	list := makesArray(t, h, kind(0, "I"), 2)
	makesMulti(t, h, 3, 4, kind(2, "A"), 2, 1)
	sets(t, h, list, 0, to(b))
	before := facts(t, h)
	for _, later := range []api.Class{iface("K", "I"), class("L", "B", "K"), class("M", "C", "I")} {
		id := define(t, l.World(), later)
		if !reflect.DeepEqual(facts(t, h), before) {
			t.Fatalf("%s has turned the heap", later.Name)
		}
		setRefused(t, h, api.ArrayStore, list, 1, to(c))
		if later.Name != "K" {
			other := newHeap(t, l)
			makesArray(t, other, kind(0, "I"), 1)
			sets(t, other, 1, 0, to(makesObject(t, other, id)))
		}
	}
}
