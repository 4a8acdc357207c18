package heap

import (
	"fmt"
	"math"
	"reflect"
	"slices"
	"testing"

	"arbiter/api"
)

// show cuts what it shows, since lists may be long.
func show(call string, args ...any) string {
	text := call + fmt.Sprintf("%v", args)
	return text[:min(len(text), 120)]
}

func makesMulti(t *testing.T, h *Heap, objects, words int, x api.Type, counts ...int) int {
	t.Helper()
	return makes(t, h, objects, words, show("Multi", x, counts), func() (int, api.Errno) { return h.Multi(x, counts) })
}

func refusesMulti(t *testing.T, h *Heap, want api.Errno, x api.Type, counts ...int) {
	t.Helper()
	refuses(t, h, want, show("Multi", x, counts), func() (int, api.Errno) { return h.Multi(x, counts) })
}

// arrayOf is what facts answer of an array with these references.
func arrayOf(x api.Type, refs ...int) fact {
	f := fact{kind: x, isArray: true}
	for _, n := range refs {
		f.elements = append(f.elements, to(n))
	}
	return f
}

// intsOf is what facts answer of a new array of ints.
func intsOf(n int) fact {
	return fact{kind: intArray, isArray: true, elements: make([]api.Value, n)}
}

func factsAre(t *testing.T, h *Heap, want ...fact) {
	t.Helper()
	got := facts(t, h)
	if len(got) != len(want) {
		t.Errorf("%d objects, want %d", len(got), len(want))
		return
	}
	for at := range want {
		if got[at].kind != want[at].kind || got[at].isArray != want[at].isArray || !slices.Equal(got[at].elements, want[at].elements) {
			t.Errorf("%d is %v, want %v", at+1, got[at], want[at])
		}
	}
}

func repeated(n, times int) []int {
	return slices.Repeat([]int{n}, times)
}

func TestMultiMakesAllBehindOneAnother(t *testing.T) { // P20.4: numbers, types, lengths and elements
	h := sample(t)
	makesMulti(t, h, 3, 8, intGrid, 2, 3)
	factsAre(t, h, arrayOf(intGrid, 2, 3), intsOf(3), intsOf(3))

	h = sample(t)
	makesMulti(t, h, 7, 18, intCube, 2, 2, 3)
	factsAre(t, h,
		arrayOf(intCube, 2, 5),
		arrayOf(intGrid, 3, 4), intsOf(3), intsOf(3),
		arrayOf(intGrid, 6, 7), intsOf(3), intsOf(3))

	h = sample(t)
	makesMulti(t, h, 10, 33, intCube, 3, 2, 4)
	factsAre(t, h,
		arrayOf(intCube, 2, 5, 8),
		arrayOf(intGrid, 3, 4), intsOf(4), intsOf(4),
		arrayOf(intGrid, 6, 7), intsOf(4), intsOf(4),
		arrayOf(intGrid, 9, 10), intsOf(4), intsOf(4))

	h = sample(t)
	makesMulti(t, h, 4, 9, kind(2, "A"), 3, 2)
	factsAre(t, h, arrayOf(kind(2, "A"), 2, 3, 4), arrayOf(kind(1, "A"), 0, 0), arrayOf(kind(1, "A"), 0, 0), arrayOf(kind(1, "A"), 0, 0))
}

func TestMultiBehindOthers(t *testing.T) { // P20.4: numbers go on from what is there
	h := sample(t)
	makesObject(t, h, classA)
	makesArray(t, h, intType, 1)
	if got := makesMulti(t, h, 3, 4, kind(2, "I"), 2, 1); got != 3 {
		t.Errorf("the number of the first is %d", got)
	}
	makesObject(t, h, classB)
	if got := makesMulti(t, h, 2, 1, kind(3, ""), 1, 0); got != 7 {
		t.Errorf("the number of the first is %d", got)
	}
	factsAre(t, h,
		fact{kind: kind(0, "A")}, intsOf(1),
		arrayOf(kind(2, "I"), 4, 5), arrayOf(kind(1, "I"), 0), arrayOf(kind(1, "I"), 0),
		fact{kind: kind(0, "B")},
		arrayOf(intCube, 8), arrayOf(intGrid))
}

func TestMultiWithFewerCounts(t *testing.T) { // P20.4: what the counts do not reach is null
	h := sample(t)
	makesMulti(t, h, 1, 2, intGrid, 2)
	makesMulti(t, h, 3, 4, intCube, 2, 1)
	makesMulti(t, h, 1, 3, kind(255, "D"), 3)
	makesMulti(t, h, 1, 2, intArray, 2)
	makesMulti(t, h, 1, 2, kind(1, "J"), 2)
	factsAre(t, h,
		arrayOf(intGrid, 0, 0),
		arrayOf(intCube, 3, 4), arrayOf(intGrid, 0), arrayOf(intGrid, 0),
		arrayOf(kind(255, "D"), 0, 0, 0),
		intsOf(2),
		arrayOf(kind(1, "J"), 0, 0))
}

func TestMultiWithNone(t *testing.T) { // P20.4: behind a 0 nothing is made, whatever stands there
	for _, rest := range [][]int{{0, 0}, {5, 5}, {greatest, greatest}, {1 << 32, 1 << 32}, {20001, 0}, {0, 1001}} {
		h := sample(t)
		makesMulti(t, h, 1, 0, intCube, 0, rest[0], rest[1])
		makesMulti(t, h, 4, 3, intCube, 3, 0, rest[0])
		factsAre(t, h, arrayOf(intCube), arrayOf(intCube, 3, 4, 5), arrayOf(intGrid), arrayOf(intGrid), arrayOf(intGrid))
		makesMulti(t, h, 1, 0, kind(255, "A"), append([]int{0}, repeated(greatest, 254)...)...)
	}
}

func TestMultiOfAllDimensions(t *testing.T) { // P20.4: as many counts as dimensions
	for _, name := range []string{"", "A", "I"} {
		for dims := 1; dims <= 255; dims++ {
			if dims > 6 && dims < 250 && dims%50 != 0 {
				continue
			}
			h := sample(t)
			refusesMulti(t, h, api.ErrArg, kind(dims, name), repeated(1, dims+1)...)
			makesMulti(t, h, dims, dims, kind(dims, name), repeated(1, dims)...)
			for number := 1; number < dims; number++ {
				typeIs(t, h, number, kind(dims+1-number, name))
				valueIs(t, h, number, 0, to(number+1))
			}
			typeIs(t, h, dims, kind(1, name))
			valueIs(t, h, dims, 0, api.Value{Ref: name != ""})
		}
	}
}

func TestMultiRefusesTypes(t *testing.T) { // P20.4, and that these errors stand ahead of the others
	h := sample(t)
	makesArray(t, h, intType, 2)
	for _, counts := range [][]int{{1}, {0}, nil, {-1}, {1, 1, 1}, {greatest, greatest}, repeated(1, 256), repeated(-1, 300)} {
		for _, x := range unsound() {
			refusesMulti(t, h, api.ErrForm, x, counts...)
		}
		for _, x := range unloaded() {
			refusesMulti(t, h, api.NoClassDef, x, counts...)
		}
		for _, x := range []api.Type{intType, kind(0, "A"), kind(0, "I"), kind(0, "Object")} {
			refusesMulti(t, h, api.ErrArg, x, counts...)
		}
	}
	if got := makesMulti(t, h, 1, 1, intArray, 1); got != 2 {
		t.Errorf("the number behind refused calls is %d", got)
	}
}

func TestMultiRefusesCounts(t *testing.T) { // P20.4
	h := sample(t)
	for _, x := range []api.Type{intArray, intGrid, intCube, kind(1, "A"), kind(255, "")} {
		refusesMulti(t, h, api.ErrArg, x)
		for _, n := range []int{0, 1, -1, greatest} { // too many, whatever they are: the order of the errors
			refusesMulti(t, h, api.ErrArg, x, repeated(n, x.Dims+1)...)
			refusesMulti(t, h, api.ErrArg, x, repeated(n, x.Dims+2)...)
		}
		refusesMulti(t, h, api.ErrArg, x, repeated(1, 300)...)
		refusesMulti(t, h, api.NegativeSize, x, repeated(-1, x.Dims)...)
		refusesMulti(t, h, api.NegativeSize, x, -1)
		refusesMulti(t, h, api.NegativeSize, x, least)
	}
	for _, n := range []int{-1, -2, least, least + 1, math.MinInt32, -1 << 32} {
		for _, other := range []int{0, 1, 2, 20001, greatest} { // behind others, also such as make nothing or are too many
			refusesMulti(t, h, api.NegativeSize, intCube, other, n)
			refusesMulti(t, h, api.NegativeSize, intCube, n, other)
			refusesMulti(t, h, api.NegativeSize, intCube, other, other, n)
			refusesMulti(t, h, api.NegativeSize, intCube, other, n, other)
			refusesMulti(t, h, api.NegativeSize, intCube, other, n, n)
		}
	}
	refusesMulti(t, h, api.NegativeSize, kind(255, ""), append(repeated(greatest, 254), -1)...)
	refusesMulti(t, h, api.NegativeSize, kind(255, ""), append(repeated(0, 254), -1)...)
}

func TestMultiWithGreatCounts(t *testing.T) { // P20.4: products that wrap round, to 0 and to small numbers among them
	h := sample(t)
	for _, counts := range [][]int{
		{1 << 32, 1 << 32}, {1 << 62, 4}, {4, 1 << 62}, {2, 1 << 63 >> 1}, {2, greatest}, {greatest, 2}, {greatest, greatest},
		{3, 6148914691236517206}, {3, 12297829382473034411 / 2}, {1 << 31, 1 << 31, 4}, {1 << 21, 1 << 21, 1 << 22}, {2, 2, 1 << 62}, {1, 1, greatest},
		{greatest, 0}, {greatest, 0, 0}, {20001, 0}, {1 << 32, 0}, {1<<32 + 1, 1, 1}, {1 << 33, 1 << 31, 1}, {1000, 1 << 61}, {5, 3689348814741910324},
	} {
		refusesMulti(t, h, api.OutOfMemory, intCube, counts...)
		refusesMulti(t, h, api.OutOfMemory, kind(255, "A"), counts...)
	}
	refusesMulti(t, h, api.OutOfMemory, kind(255, ""), repeated(2, 255)...)
	refusesMulti(t, h, api.OutOfMemory, kind(255, ""), repeated(greatest, 255)...)
	refusesMulti(t, h, api.OutOfMemory, kind(64, ""), repeated(2, 64)...)
	refusesMulti(t, h, api.OutOfMemory, kind(255, ""), append(repeated(1, 254), greatest)...)
	refusesMulti(t, h, api.OutOfMemory, kind(255, ""), append(repeated(1, 254), 20000-254+1)...)
	makesMulti(t, h, 255, 20000, kind(255, ""), append(repeated(1, 254), 20000-254)...)
}

// bound is counts that just fit into a heap where this many objects and words are free, and those of one more that do not.
type bound struct {
	free, words int
	kind        api.Type
	fits, not   []int
	made, taken int
}

func bounds() []bound {
	return []bound{
		// objects
		{1000, 20000, intGrid, []int{999, 0}, []int{1000, 0}, 1000, 999},
		{1000, 20000, intGrid, []int{999, 19}, []int{1000, 19}, 1000, 999 + 999*19},
		{1000, 20000, intCube, []int{1, 998, 0}, []int{1, 999, 0}, 1000, 999},
		{1000, 20000, intCube, []int{27, 36, 0}, []int{27, 37, 0}, 1 + 27 + 27*36, 27 + 27*36},
		{1000, 20000, intCube, []int{499, 1, 0}, []int{500, 1, 0}, 999, 499 + 499},
		{1, 20000, intGrid, []int{0, 9}, []int{1, 0}, 1, 0},
		{1, 20000, intGrid, []int{20000}, []int{1, 1}, 1, 20000},
		{2, 20000, kind(2, "A"), []int{1, 3}, []int{2, 3}, 2, 4},
		{3, 20000, intCube, []int{1, 1, 5}, []int{1, 2, 5}, 3, 7},
		{7, 20000, intCube, []int{2, 2, 5}, []int{2, 3, 5}, 7, 26},
		{6, 20000, intCube, []int{1, 4, 0}, []int{2, 2, 0}, 6, 5},
		// words
		{1000, 20000, intArray, []int{20000}, []int{20001}, 1, 20000},
		{1000, 20000, intGrid, []int{20000}, []int{20001}, 1, 20000},
		{1000, 20000, intGrid, []int{1, 19999}, []int{1, 20000}, 2, 20000},
		{1000, 20000, intGrid, []int{2, 9999}, []int{2, 10000}, 3, 20000},
		{1000, 20000, kind(2, "I"), []int{800, 24}, []int{800, 25}, 801, 20000},
		{1000, 20000, intGrid, []int{800, 24}, []int{801, 24}, 801, 20000},
		{1000, 20000, intCube, []int{10, 10, 198}, []int{10, 10, 199}, 111, 19910},
		{1000, 20000, intCube, []int{1, 1, 19998}, []int{1, 1, 19999}, 3, 20000},
		{1000, 20000, kind(3, "A"), []int{2, 19998 / 2}, []int{2, 10000}, 3, 20000},
		{1000, 0, intGrid, []int{0, 1}, []int{1, 0}, 1, 0},
		{1000, 1, intGrid, []int{1, 0}, []int{1, 1}, 2, 1},
		{1000, 8, intGrid, []int{2, 3}, []int{2, 4}, 3, 8},
		{1000, 8, intGrid, []int{2, 3}, []int{3, 2}, 3, 8},
		{1000, 18, intCube, []int{2, 2, 3}, []int{2, 2, 4}, 7, 18},
		{1000, 999, intArray, []int{999}, []int{1000}, 1, 999},
		// both
		{3, 8, intGrid, []int{2, 3}, []int{2, 4}, 3, 8},
		{3, 8, intGrid, []int{2, 3}, []int{3, 1}, 3, 8},
		{7, 18, intCube, []int{2, 2, 3}, []int{2, 3, 2}, 7, 18},
		{1, 5, kind(1, "A"), []int{5}, []int{6}, 1, 5},
	}
}

func TestMultiAtTheBounds(t *testing.T) { // P20.4, R5: what is refused leaves Len, Words and the next number
	for _, b := range bounds() {
		h := sample(t)
		if words := 20000 - b.words; words > 0 {
			makesArray(t, h, intType, words)
		}
		fillUp(t, h, 1000-b.free)
		before := h.Len()
		refusesMulti(t, h, api.OutOfMemory, b.kind, b.not...)
		refusesMulti(t, h, api.OutOfMemory, b.kind, b.not...)
		if got := makesMulti(t, h, b.made, b.taken, b.kind, b.fits...); got != before+1 {
			t.Errorf("the number of the first is %d behind %d", got, before)
		}
		refusesMulti(t, h, api.OutOfMemory, intGrid, 1000, 0)
		if t.Failed() {
			t.Fatalf("%+v", b)
		}
	}
}

func TestMultiInAFullHeap(t *testing.T) { // P20.4: the order of the errors
	h := sample(t)
	fillUp(t, h, 999)
	makesMulti(t, h, 1, 20000, intGrid, 20000)
	for _, counts := range [][]int{{0}, {1}, {0, 0}, {0, greatest}, {greatest, greatest}} {
		refusesMulti(t, h, api.OutOfMemory, intGrid, counts...)
	}
	refusesMulti(t, h, api.NegativeSize, intGrid, -1)
	refusesMulti(t, h, api.NegativeSize, intGrid, greatest, -1)
	refusesMulti(t, h, api.ErrArg, intGrid, -1, -1, -1)
	refusesMulti(t, h, api.ErrArg, intGrid)
	refusesMulti(t, h, api.ErrArg, intType, 1)
	refusesMulti(t, h, api.NoClassDef, kind(1, "no/Such"), 1)
	refusesMulti(t, h, api.ErrForm, kind(256, ""), 1)
}

func TestMultiOfOneCountIsAnArray(t *testing.T) { // P20.3, P20.4: both make the same
	for _, elem := range []api.Type{intType, intGrid, kind(0, "A"), kind(254, "I")} {
		for _, n := range []int{0, 1, 20000, 20001, -1, greatest} {
			x, y := sample(t), sample(t)
			a, e := x.Array(elem, n)
			b, f := y.Multi(kind(elem.Dims+1, elem.Name), []int{n})
			if a != b || e != f || !reflect.DeepEqual(facts(t, x), facts(t, y)) {
				t.Errorf("Array(%v, %d) = %d, %d, and Multi = %d, %d", elem, n, a, e, b, f)
			}
		}
	}
}
