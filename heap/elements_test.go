package heap

import (
	"math"
	"reflect"
	"testing"

	"arbiter/api"
)

func number(n int) api.Value { return api.Value{N: n} }

func to(ref int) api.Value { return api.Value{Ref: true, N: ref} }

func valueIs(t *testing.T, h *Heap, ref, i int, want api.Value) {
	t.Helper()
	if got, e := h.Get(ref, i); got != want || e != api.OK {
		t.Errorf("Get(%d, %d) = %v, %d, want %v", ref, i, got, e, want)
	}
}

func getRefused(t *testing.T, h *Heap, want api.Errno, ref int, places ...int) {
	t.Helper()
	for _, i := range places {
		if got, e := h.Get(ref, i); got != (api.Value{}) || e != want {
			t.Errorf("Get(%d, %d) = %v, %d, want %d", ref, i, got, e, want)
		}
	}
}

// sets expects that the element, and nothing else in the heap, is turned.
func sets(t *testing.T, h *Heap, ref, i int, v api.Value) {
	t.Helper()
	want := facts(t, h)
	want[ref-1].elements[i] = v
	if e := h.Set(ref, i, v); e != api.OK {
		t.Errorf("Set(%d, %d, %v) = %d", ref, i, v, e)
	}
	if got := facts(t, h); !reflect.DeepEqual(got, want) {
		t.Errorf("behind Set(%d, %d, %v) the heap is not as it should be", ref, i, v)
	}
}

// setRefused expects a heap that is as it was.
func setRefused(t *testing.T, h *Heap, want api.Errno, ref, i int, values ...api.Value) {
	t.Helper()
	before := facts(t, h)
	for _, v := range values {
		if e := h.Set(ref, i, v); e != want {
			t.Errorf("Set(%d, %d, %v) = %d, want %d", ref, i, v, e, want)
		}
	}
	if got := facts(t, h); !reflect.DeepEqual(got, before) {
		t.Errorf("Set(%d, %d, %v) was refused and turned the heap", ref, i, values)
	}
}

// beyond are places of no element of an array of that length.
func beyond(length int) []int {
	out := []int{-1, -2, length, length + 1, -length - 1, least, least + 1, greatest, 1 << 32, -1 << 32, math.MaxInt32, math.MinInt32}
	if length > 0 {
		out = append(out, -length, 1<<32+length-1)
	}
	return out
}

// anyValues are of both kinds, and of all sizes.
var anyValues = []api.Value{number(0), to(0), number(5), to(1), to(99), number(1 << 31), number(-1<<31 - 1), to(-1), to(greatest), number(greatest), number(least), to(least)}

func TestGetAndSetOfWhatIsNotThere(t *testing.T) { // P20.6, P20.7: ahead of all that is wrong with the place or the value
	h := sample(t)
	for _, i := range []int{0, -1, 3, greatest, least} {
		getRefused(t, h, api.NullPointer, 0, i)
		getRefused(t, h, api.ErrRange, 1, i)
		setRefused(t, h, api.NullPointer, 0, i, anyValues...)
		setRefused(t, h, api.ErrRange, 1, i, anyValues...)
	}
	makesArray(t, h, intType, 3)
	makesObject(t, h, classA)
	makesArray(t, h, kind(0, "A"), 3)
	makesObject(t, h, classObject)
	for _, i := range []int{0, -1, 3, greatest, least} {
		for _, object := range []int{2, 4} {
			getRefused(t, h, api.ErrArg, object, i)
			setRefused(t, h, api.ErrArg, object, i, anyValues...)
		}
		getRefused(t, h, api.NullPointer, 0, i)
		setRefused(t, h, api.NullPointer, 0, i, anyValues...)
		for _, none := range append([]int{5, 6}, oddNumbers...) {
			getRefused(t, h, api.ErrRange, none, i)
			setRefused(t, h, api.ErrRange, none, i, anyValues...)
		}
	}
}

func TestGetAtTheEdges(t *testing.T) { // P20.6
	for _, elem := range []api.Type{intType, intArray, intGrid, kind(0, "A"), kind(0, "I"), kind(3, "J")} {
		for _, n := range []int{0, 1, 2, 5, 20000} {
			h := sample(t)
			a := makesArray(t, h, elem, n)
			if n > 0 {
				valueIs(t, h, a, 0, api.Value{Ref: elem != intType})
				valueIs(t, h, a, n-1, api.Value{Ref: elem != intType})
			}
			getRefused(t, h, api.IndexBounds, a, beyond(n)...)
		}
	}
}

func TestSetAtTheEdges(t *testing.T) { // P20.7
	for _, c := range []struct {
		elem api.Type
		v    api.Value
	}{{intType, number(7)}, {kind(0, "A"), to(1)}, {kind(0, "I"), to(1)}, {intArray, to(2)}, {kind(0, "Object"), to(3)}} {
		for _, n := range []int{0, 1, 2, 5} {
			h := sample(t)
			makesObject(t, h, classB)
			makesArray(t, h, intType, 1)
			a := makesArray(t, h, c.elem, n)
			for i := range n {
				sets(t, h, a, i, c.v)
				valueIs(t, h, a, i, c.v)
			}
			for _, i := range beyond(n) {
				setRefused(t, h, api.IndexBounds, a, i, c.v, api.Value{Ref: c.v.Ref})
			}
		}
	}
}

func TestSetInTheLongestArray(t *testing.T) { // P20.7
	h := sample(t)
	a := makesArray(t, h, intType, 20000)
	for _, i := range []int{0, 1, 9999, 19998, 19999} {
		sets(t, h, a, i, number(i-5))
	}
	setRefused(t, h, api.IndexBounds, a, 20000, number(1))
	setRefused(t, h, api.IndexBounds, a, -1, number(1))
}

func TestSetOfInts(t *testing.T) { // P20.7: the edges of 32 bits
	h := sample(t)
	a := makesArray(t, h, intType, 2)
	for _, n := range []int{0, 1, -1, math.MaxInt32, math.MaxInt32 - 1, math.MinInt32, math.MinInt32 + 1, 1000, 5, 0} {
		sets(t, h, a, 1, number(n))
		valueIs(t, h, a, 1, number(n))
		valueIs(t, h, a, 0, number(0))
	}
	sets(t, h, a, 1, number(77))
	for _, n := range []int{math.MaxInt32 + 1, math.MaxInt32 + 2, math.MinInt32 - 1, math.MinInt32 - 2, greatest, least, 1 << 32, 1<<32 + 1, -1 << 32, -1<<32 + 1, 1 << 62} {
		for _, i := range []int{0, 1, 2, -1, greatest} { // ahead of a place that is none
			setRefused(t, h, api.Malformed, a, i, number(n))
		}
	}
	valueIs(t, h, a, 1, number(77))
	for _, i := range []int{0, 1, 2, -1} {
		for _, n := range []int{0, 1, a, 99, -1, greatest, least} { // nor is a reference an int
			setRefused(t, h, api.Malformed, a, i, to(n))
		}
	}
}

func TestSetOfNull(t *testing.T) { // P20.7
	h := sample(t)
	object := makesObject(t, h, classA)
	row := makesArray(t, h, intType, 1)
	for _, elem := range []api.Type{kind(0, "Object"), kind(0, "A"), kind(0, "I"), kind(0, "J"), kind(0, "D"), intArray, intGrid, kind(1, "A"), kind(254, "B")} {
		a := makesArray(t, h, elem, 2)
		sets(t, h, a, 0, to(0))
		switch elem {
		case kind(0, "A"), kind(0, "I"), kind(0, "Object"):
			sets(t, h, a, 1, to(object))
		case intArray:
			sets(t, h, a, 1, to(row))
		}
		sets(t, h, a, 1, to(0))
		valueIs(t, h, a, 1, to(0))
		setRefused(t, h, api.IndexBounds, a, 2, to(0))
		setRefused(t, h, api.IndexBounds, a, -1, to(0))
	}
}

func TestSetOfTheOtherKind(t *testing.T) { // P20.7
	h := sample(t)
	for _, elem := range []api.Type{kind(0, "Object"), kind(0, "A"), kind(0, "I"), intArray, kind(1, "A"), kind(254, "")} {
		a := makesArray(t, h, elem, 1)
		for _, i := range []int{0, 1, -1, greatest} { // ahead of a place that is none
			setRefused(t, h, api.Malformed, a, i, number(0), number(1), number(-1), number(a), number(1<<31), number(greatest))
		}
	}
}

func TestSetOfReferencesToNothing(t *testing.T) { // P20.7
	h := sample(t)
	makesObject(t, h, classA)
	for _, elem := range []api.Type{kind(0, "Object"), kind(0, "A"), kind(0, "J"), intArray} {
		a := makesArray(t, h, elem, 1)
		for _, n := range append([]int{h.Len() + 1, h.Len() + 2, 99}, oddNumbers...) {
			setRefused(t, h, api.ErrRange, a, 0, to(n))
			setRefused(t, h, api.IndexBounds, a, 1, to(n)) // which stands ahead
			setRefused(t, h, api.IndexBounds, a, -1, to(n))
		}
	}
}

// things are an object or array of each kind, in a heap of their own.
func things(t *testing.T) (*Heap, map[string]int) {
	t.Helper()
	h := sample(t)
	return h, map[string]int{
		"Object": makesObject(t, h, classObject),
		"A":      makesObject(t, h, classA),
		"B":      makesObject(t, h, classB),
		"C":      makesObject(t, h, classC),
		"E":      makesObject(t, h, classE),
		"F":      makesObject(t, h, classF),
		"[I":     makesArray(t, h, intType, 1),
		"[[I":    makesArray(t, h, intArray, 1),
		"[[[I":   makesArray(t, h, intGrid, 1),
		"[A":     makesArray(t, h, kind(0, "A"), 1),
		"[B":     makesArray(t, h, kind(0, "B"), 1),
		"[C":     makesArray(t, h, kind(0, "C"), 1),
		"[IF":    makesArray(t, h, kind(0, "I"), 1),
		"[[A":    makesArray(t, h, kind(1, "A"), 1),
		"[Obj":   makesArray(t, h, kind(0, "Object"), 1),
		"[[Obj":  makesArray(t, h, kind(1, "Object"), 1),
	}
}

func TestSetByTheComponent(t *testing.T) { // P20.7: what may stand in which array; all else is an ArrayStore
	all := []string{"Object", "A", "B", "C", "E", "F", "[I", "[[I", "[[[I", "[A", "[B", "[C", "[IF", "[[A", "[Obj", "[[Obj"}
	anyArray := all[6:]
	for _, c := range []struct {
		component api.Type
		below     []string
	}{
		{kind(0, "Object"), all},
		{kind(0, "A"), []string{"A", "B", "E"}},
		{kind(0, "B"), []string{"B"}},
		{kind(0, "C"), []string{"C"}},
		{kind(0, "D"), []string{"E"}},
		{kind(0, "E"), []string{"E"}},
		{kind(0, "q/F"), []string{"F"}},
		{kind(0, "I"), []string{"A", "B", "E"}},
		{kind(0, "J"), nil},
		{kind(0, "Cloneable"), append([]string{"C"}, anyArray...)},
		{kind(0, "Serializable"), append([]string{"E"}, anyArray...)},
		{kind(1, ""), []string{"[I"}},
		{kind(2, ""), []string{"[[I"}},
		{kind(3, ""), []string{"[[[I"}},
		{kind(4, ""), nil},
		{kind(1, "Object"), []string{"[[I", "[[[I", "[A", "[B", "[C", "[IF", "[[A", "[Obj", "[[Obj"}},
		{kind(1, "Cloneable"), []string{"[[I", "[[[I", "[C", "[[A", "[[Obj"}},
		{kind(1, "A"), []string{"[A", "[B"}},
		{kind(1, "B"), []string{"[B"}},
		{kind(1, "I"), []string{"[A", "[B", "[IF"}},
		{kind(1, "J"), nil},
		{kind(2, "Object"), []string{"[[[I", "[[A", "[[Obj"}},
		{kind(2, "I"), []string{"[[A"}},
		{kind(254, "A"), nil},
	} {
		h, refs := things(t)
		a := makesArray(t, h, c.component, 2)
		below := map[string]int{}
		for _, name := range c.below {
			below[name] = 1
		}
		for _, name := range all {
			if below[name] == 0 {
				setRefused(t, h, api.ArrayStore, a, 1, to(refs[name]))
			} else {
				sets(t, h, a, 1, to(refs[name]))
			}
			setRefused(t, h, api.IndexBounds, a, 2, to(refs[name])) // which stands ahead
		}
		if t.Failed() {
			t.Fatalf("in an array over %v", c.component)
		}
	}
}

func TestSetGoesByTheArrayItself(t *testing.T) { // P20.7: its own type, not that of the element by which it is reached
	h := sample(t)
	outer := makesMulti(t, h, 3, 4, kind(2, "Object"), 2, 1)
	rows := makesArray(t, h, kind(0, "B"), 1)
	sets(t, h, outer, 0, to(rows)) // [LB; is below [LObject;
	setRefused(t, h, api.ArrayStore, rows, 0, to(makesObject(t, h, classA)))
	sets(t, h, rows, 0, to(makesObject(t, h, classB)))
	sets(t, h, outer+1, 0, to(outer)) // one that is inside may hold the one outside
	objects := makesArray(t, h, kind(0, "Object"), 1)
	sets(t, h, objects, 0, to(objects)) // and an array itself
	valueIs(t, h, objects, 0, to(objects))
}

func TestSetAtTheLastNumber(t *testing.T) { // P20.7: references to both edges of a full heap
	h := sample(t)
	makesObject(t, h, classB)
	a := makesArray(t, h, kind(0, "A"), 2)
	fillUp(t, h, 999)
	makesObject(t, h, classB)
	sets(t, h, a, 0, to(1))
	sets(t, h, a, 1, to(1000))
	setRefused(t, h, api.ErrRange, a, 0, to(1001))
	setRefused(t, h, api.ArrayStore, a, 0, to(999))
	setRefused(t, h, api.ArrayStore, a, 0, to(a))
}

func TestElementsOfArraysStandAlone(t *testing.T) { // P20.6, P20.7: also of those that Multi made together
	h := sample(t)
	makesMulti(t, h, 4, 12, intGrid, 3, 3)
	for row := range 3 {
		for i := range 3 {
			sets(t, h, row+2, i, number(10*row+i))
		}
	}
	for row := range 3 {
		v, _ := h.Get(1, row)
		for i := range 3 {
			valueIs(t, h, v.N, i, number(10*row+i))
		}
	}
	sets(t, h, 1, 0, to(4)) // two elements may be the same array
	sets(t, h, 1, 1, to(4))
	sets(t, h, 4, 1, number(-1))
	for i := range 3 {
		v, _ := h.Get(1, i)
		valueIs(t, h, v.N, 1, number(-1))
	}
}

func TestElementsStayWhileOthersAreMade(t *testing.T) { // P20.6: however far the heap grows
	h := sample(t)
	makesArray(t, h, intType, 2)
	sets(t, h, 1, 1, number(5))
	makesArray(t, h, kind(0, "A"), 1)
	makesObject(t, h, classB)
	sets(t, h, 2, 0, to(3))
	for at := range 300 {
		makesArray(t, h, intType, at%7)
		makesMulti(t, h, 2, 4, intGrid, 1, 3)
		valueIs(t, h, 1, 1, number(5))
		valueIs(t, h, 2, 0, to(3))
	}
	sizes(t, h, 3+300*3, 3+300*4+42*(0+1+2+3+4+5+6)+0+1+2+3+4+5)
}
