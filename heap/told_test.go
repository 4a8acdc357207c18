package heap

import (
	"fmt"
	"maps"
	"math/rand"
	"slices"
	"testing"

	"arbiter/api"
	"arbiter/arrays"
	"arbiter/hier"
	"arbiter/types"
)

// told is the chapter told a second time: a list of types and lengths, and beside it one map of all elements that are not 0. Words are added up when they are asked for, and Multi makes its arrays one by one and takes them all back where one is too many.
type told struct {
	world    *hier.World
	kinds    []api.Type
	lengths  []int
	elements map[[2]int]int
}

func newTold(w *hier.World) *told {
	return &told{world: w, elements: map[[2]int]int{}}
}

func (x *told) words() int {
	sum := 0
	for _, n := range x.lengths {
		sum += n
	}
	return sum
}

// cut takes back all but the first ones.
func (x *told) cut(objects int) {
	x.kinds, x.lengths = x.kinds[:objects], x.lengths[:objects]
	maps.DeleteFunc(x.elements, func(at [2]int, _ int) bool { return at[0] > objects })
}

// grow answers false, and makes nothing, where there is no room.
func (x *told) grow(t api.Type, length int) bool {
	if len(x.kinds) == 1000 || length > 20000-x.words() {
		return false
	}
	x.kinds, x.lengths = append(x.kinds, t), append(x.lengths, length)
	return true
}

func (x *told) object(class int) (int, api.Errno) {
	if class < 0 || class >= x.world.Len() {
		return 0, api.ErrRange
	}
	c, _ := x.world.Class(class)
	if x.world.IsIface(class) || c.Flags&api.AbstractFl > 0 {
		return 0, api.Instantiation
	}
	if !x.grow(api.Type{Name: c.Name}, 0) {
		return 0, api.OutOfMemory
	}
	return len(x.kinds), api.OK
}

func (x *told) isLoaded(t api.Type) bool {
	if t.Name == "" {
		return true
	}
	for id := range x.world.Len() {
		if c, _ := x.world.Class(id); c.Name == t.Name {
			return true
		}
	}
	return false
}

func (x *told) array(elem api.Type, n int) (int, api.Errno) {
	switch {
	case types.Check(elem) != api.OK:
		return 0, api.ErrForm
	case elem.Dims == 255:
		return 0, api.ErrLarge
	case !x.isLoaded(elem):
		return 0, api.NoClassDef
	case n < 0:
		return 0, api.NegativeSize
	case !x.grow(kind(elem.Dims+1, elem.Name), n):
		return 0, api.OutOfMemory
	}
	return len(x.kinds), api.OK
}

// task is an array that is still to be made, and where it becomes an element.
type task struct {
	depth int
	place [2]int
}

func (x *told) multi(t api.Type, counts []int) (int, api.Errno) {
	switch {
	case types.Check(t) != api.OK:
		return 0, api.ErrForm
	case !x.isLoaded(t):
		return 0, api.NoClassDef
	case t.Dims == 0 || len(counts) < 1 || len(counts) > t.Dims:
		return 0, api.ErrArg
	case slices.Min(counts) < 0:
		return 0, api.NegativeSize
	}
	before := len(x.kinds)
	for tasks := []task{{}}; len(tasks) > 0; {
		next := tasks[len(tasks)-1]
		tasks = tasks[:len(tasks)-1]
		if !x.grow(kind(t.Dims-next.depth, t.Name), counts[next.depth]) {
			x.cut(before)
			return 0, api.OutOfMemory
		}
		made := len(x.kinds)
		if next.depth > 0 {
			x.elements[next.place] = made
		}
		if next.depth+1 == len(counts) {
			continue
		}
		for i := counts[next.depth] - 1; i >= 0; i-- { // the first is to be made first, so it is laid on top
			tasks = append(tasks, task{next.depth + 1, [2]int{made, i}})
		}
	}
	return before + 1, api.OK
}

func (x *told) typeOf(ref int) (api.Type, api.Errno) {
	if ref == 0 {
		return api.Type{}, api.NullPointer
	}
	for at, t := range x.kinds {
		if at+1 == ref {
			return t, api.OK
		}
	}
	return api.Type{}, api.ErrRange
}

func (x *told) length(ref int) (int, api.Errno) {
	t, e := x.typeOf(ref)
	if e != api.OK {
		return 0, e
	}
	if t.Dims < 1 {
		return 0, api.ErrArg
	}
	return x.lengths[ref-1], api.OK
}

func (x *told) get(ref, i int) (api.Value, api.Errno) {
	n, e := x.length(ref)
	if e != api.OK {
		return api.Value{}, e
	}
	if i < 0 || i >= n {
		return api.Value{}, api.IndexBounds
	}
	t, _ := x.typeOf(ref)
	return api.Value{Ref: t.Dims > 1 || t.Name != "", N: x.elements[[2]int{ref, i}]}, api.OK
}

// isBelow goes up from s step by step, and looks whether it meets t. Ways meet again further up, so what was seen is passed over.
func (x *told) isBelow(s, t api.Type) bool {
	seen := map[api.Type]int{s: 1}
	for queue := []api.Type{s}; len(queue) > 0; queue = queue[1:] {
		if queue[0] == t {
			return true
		}
		steps, _ := arrays.Above(x.world, queue[0])
		for _, step := range steps {
			if seen[step]++; seen[step] == 1 && step.Dims >= t.Dims {
				queue = append(queue, step)
			}
		}
	}
	return false
}

func (x *told) set(ref, i int, v api.Value) api.Errno {
	n, e := x.length(ref)
	if e != api.OK {
		return e
	}
	t, _ := x.typeOf(ref)
	if isInts := t.Dims == 1 && t.Name == ""; isInts == v.Ref || isInts && int(int32(v.N)) != v.N {
		return api.Malformed
	}
	if i < 0 || i >= n {
		return api.IndexBounds
	}
	if v.Ref && v.N != 0 {
		s, e := x.typeOf(v.N)
		if e != api.OK {
			return e
		}
		if !x.isBelow(s, kind(t.Dims-1, t.Name)) {
			return api.ArrayStore
		}
	}
	x.elements[[2]int{ref, i}] = v.N
	return api.OK
}

// The calls that a step may be of.
const (
	callObject = iota
	callArray
	callMulti
	callTypeOf
	callLength
	callGet
	callSet
	callCount
)

// step is a call with its arguments.
type step struct {
	call   int
	a, b   int
	kind   api.Type
	counts []int
	value  api.Value
}

// answer is what any of the calls answers.
type answer struct {
	n     int
	kind  api.Type
	value api.Value
	e     api.Errno
}

func (s step) ask(h *Heap) (out answer) {
	switch s.call {
	case callObject:
		out.n, out.e = h.Object(s.a)
	case callArray:
		out.n, out.e = h.Array(s.kind, s.a)
	case callMulti:
		out.n, out.e = h.Multi(s.kind, s.counts)
	case callTypeOf:
		out.kind, out.e = h.TypeOf(s.a)
	case callLength:
		out.n, out.e = h.Length(s.a)
	case callGet:
		out.value, out.e = h.Get(s.a, s.b)
	case callSet:
		out.e = h.Set(s.a, s.b, s.value)
	}
	return out
}

func (s step) tell(x *told) (out answer) {
	switch s.call {
	case callObject:
		out.n, out.e = x.object(s.a)
	case callArray:
		out.n, out.e = x.array(s.kind, s.a)
	case callMulti:
		out.n, out.e = x.multi(s.kind, s.counts)
	case callTypeOf:
		out.kind, out.e = x.typeOf(s.a)
	case callLength:
		out.n, out.e = x.length(s.a)
	case callGet:
		out.value, out.e = x.get(s.a, s.b)
	case callSet:
		out.e = x.set(s.a, s.b, s.value)
	}
	return out
}

func pick[T any](r *rand.Rand, from ...T) T {
	return from[r.Intn(len(from))]
}

// randomClasses are those that arrive behind the three that every world has.
func randomClasses(r *rand.Rand, count int) []api.Class {
	supers, ifaces := []string{"Object"}, []string{"Cloneable", "Serializable"}
	var out []api.Class
	for n := range count {
		name := fmt.Sprint(pick(r, "", "p/"), "C", n)
		var above []string
		for range r.Intn(3) {
			if i := pick(r, ifaces...); !slices.Contains(above, i) {
				above = append(above, i)
			}
		}
		if r.Intn(4) == 0 {
			out = append(out, iface(name, above...))
			ifaces = append(ifaces, name)
			continue
		}
		c := class(name, pick(r, supers...), above...)
		if r.Intn(4) == 0 {
			c.Flags |= api.AbstractFl
		}
		out = append(out, c)
		supers = append(supers, name)
	}
	return out
}

// player makes random steps; size says how great its arrays are.
type player struct {
	*rand.Rand
	told *told
	size int
}

func (p player) class() int {
	n := p.told.world.Len()
	return pick(p.Rand, p.Intn(n), p.Intn(n), p.Intn(n), p.Intn(n), -1, n, pick(p.Rand, oddNumbers...))
}

// ref is that of an object, more often than not.
func (p player) ref() int {
	n := len(p.told.kinds)
	if p.Intn(12) == 0 {
		return pick(p.Rand, 0, 0, -1, n+1, n+2, pick(p.Rand, oddNumbers...))
	}
	return pick(p.Rand, p.Intn(n+1), 1+p.Intn(n+1), n)
}

func (p player) kind() api.Type {
	c, _ := p.told.world.Class(p.Intn(p.told.world.Len()))
	if p.Intn(15) == 0 {
		return kind(pick(p.Rand, 0, 1, -1, 256, 255), pick(p.Rand, "", "1", "no/Such", c.Name))
	}
	return kind(pick(p.Rand, 0, 0, 0, 1, 1, 2, 3, 254, 255), pick(p.Rand, "", "", "Object", "Cloneable", c.Name, c.Name, c.Name))
}

func (p player) count() int {
	switch n := p.Intn(1200); {
	case n < 40:
		return pick(p.Rand, -1, -2, least)
	case n < 80:
		return pick(p.Rand, 20001-p.told.words(), 1001-len(p.told.kinds), 1<<32, greatest)
	case n == 80: // rarely, since it leaves no room for later steps
		return pick(p.Rand, 20000-p.told.words(), 1000-len(p.told.kinds))
	}
	return p.Intn(1 + p.size)
}

func (p player) counts() []int {
	var out []int
	for range pick(p.Rand, 0, 1, 1, 2, 2, 2, 3, 3, 4) {
		n := p.count()
		if n > 4 && p.Intn(2) == 0 {
			n %= 5 // else most would be too many together
		}
		out = append(out, n)
	}
	return out
}

// place is one of the array, more often than not.
func (p player) place(ref int) int {
	n, _ := p.told.length(ref)
	return pick(p.Rand, p.Intn(n+1), p.Intn(n+1), p.Intn(n+1), 0, n-1, n, -1, pick(p.Rand, oddNumbers...))
}

// fitting are the objects that may stand in an array, or null.
func (p player) fitting(ref int) int {
	t, _ := p.told.typeOf(ref)
	for range 6 {
		n := p.ref()
		if s, e := p.told.typeOf(n); e == api.OK && p.told.isBelow(s, kind(t.Dims-1, t.Name)) {
			return n
		}
	}
	return 0
}

func (p player) value(ref int) api.Value {
	t, _ := p.told.typeOf(ref)
	v := api.Value{Ref: t != kind(1, "")}
	switch {
	case !v.Ref:
		v.N = pick(p.Rand, p.Intn(100), -p.Intn(100), 1<<31-1, -1<<31, 1<<31, -1<<31-1, int(p.Uint64()))
	case t.Dims > 0 && p.Intn(2) == 0:
		v.N = p.fitting(ref)
	default:
		v.N = pick(p.Rand, p.ref(), p.ref(), 0)
	}
	if p.Intn(15) == 0 {
		v.Ref = !v.Ref
	}
	return v
}

func (p player) step() step {
	s := step{call: pick(p.Rand, callObject, callArray, callArray, callMulti, callTypeOf, callLength, callGet, callGet, callSet, callSet, callSet)}
	switch s.call {
	case callObject:
		s.a = p.class()
	case callArray:
		s.kind, s.a = p.kind(), p.count()
	case callMulti:
		s.kind, s.counts = p.kind(), p.counts()
		if s.kind.Dims == 0 && p.Intn(5) > 0 {
			s.kind.Dims = pick(p.Rand, 1, 2, 3, 4)
		}
	case callTypeOf, callLength:
		s.a = p.ref()
	case callGet, callSet:
		s.a = p.ref()
		s.b, s.value = p.place(s.a), p.value(s.a)
	}
	return s
}

// holdsAsTold holds all that a heap answers against the second telling.
func holdsAsTold(t *testing.T, h *Heap, x *told) {
	t.Helper()
	for at, f := range facts(t, h) {
		if f.kind != x.kinds[at] || len(f.elements) != x.lengths[at] {
			t.Fatalf("%d is %v with %d elements, want %v with %d", at+1, f.kind, len(f.elements), x.kinds[at], x.lengths[at])
		}
		for i, v := range f.elements {
			if want, _ := x.get(at+1, i); v != want {
				t.Fatalf("element %d of %d is %v, want %v", i, at+1, v, want)
			}
		}
	}
}

// seen counts what the random steps have met: without all of it they would show little.
type seen struct {
	answers                                    map[met]int
	fullOfObjects, fullOfWords, stored, nested int
}

type met struct {
	call int
	e    api.Errno
}

func (c *seen) count(x *told, s step, want answer) {
	c.answers[met{s.call, want.e}]++
	if len(x.kinds) == 1000 {
		c.fullOfObjects++
	}
	if x.words() == 20000 {
		c.fullOfWords++
	}
	if s.call == callSet && want.e == api.OK && s.value.Ref && s.value.N != 0 {
		c.stored++
	}
	if s.call == callMulti && want.e == api.OK && len(s.counts) > 2 && s.counts[0] > 1 && s.counts[1] > 1 {
		c.nested++
	}
}

// named are the errors that the promises name for each call.
func named() [callCount][]api.Errno {
	return [callCount][]api.Errno{
		callObject: {api.OK, api.ErrRange, api.Instantiation, api.OutOfMemory},
		callArray:  {api.OK, api.ErrForm, api.ErrLarge, api.NoClassDef, api.NegativeSize, api.OutOfMemory},
		callMulti:  {api.OK, api.ErrForm, api.NoClassDef, api.ErrArg, api.NegativeSize, api.OutOfMemory},
		callTypeOf: {api.OK, api.NullPointer, api.ErrRange},
		callLength: {api.OK, api.NullPointer, api.ErrRange, api.ErrArg},
		callGet:    {api.OK, api.NullPointer, api.ErrRange, api.ErrArg, api.IndexBounds},
		callSet:    {api.OK, api.NullPointer, api.ErrRange, api.ErrArg, api.IndexBounds, api.Malformed, api.ArrayStore},
	}
}

func (c *seen) isEnough(t *testing.T) {
	t.Helper()
	for call, errs := range named() {
		for _, e := range errs {
			if n := c.answers[met{call, e}]; n < 30 {
				t.Errorf("call %d has answered %d in %d steps alone", call, e, n)
			}
			delete(c.answers, met{call, e})
		}
	}
	if len(c.answers) > 0 {
		t.Errorf("answers that no promise names: %v", c.answers)
	}
	if c.fullOfObjects < 500 || c.fullOfWords < 500 || c.stored < 500 || c.nested < 100 {
		t.Errorf("full of objects %d times, of words %d times, %d references stored, %d times arrays of arrays of arrays", c.fullOfObjects, c.fullOfWords, c.stored, c.nested)
	}
}

// play makes random steps on both while classes arrive, and holds the answers against each other.
func play(t *testing.T, r *rand.Rand, steps int, c *seen) {
	t.Helper()
	classes := randomClasses(r, 30)
	l := linkerOf(t, classes[:r.Intn(20)]...)
	h, x := newHeap(t, l), newTold(l.World())
	p := player{r, x, pick(r, 2, 5, 12, 40, 200)}
	for number := range steps {
		if next := l.World().Len() - 3; next < len(classes) && r.Intn(40) == 0 {
			define(t, l.World(), classes[next])
		}
		s := p.step()
		got, want := s.ask(h), s.tell(x)
		if got != want {
			t.Fatalf("step %d: %+v = %+v, want %+v", number, s, got, want)
		}
		if h.Len() != len(x.kinds) || h.Words() != x.words() {
			t.Fatalf("behind step %d, %+v: %d objects and %d words, want %d and %d", number, s, h.Len(), h.Words(), len(x.kinds), x.words())
		}
		if number%250 == 0 {
			holdsAsTold(t, h, x)
		}
		c.count(x, s, want)
	}
	holdsAsTold(t, h, x)
}

func TestRandomSteps(t *testing.T) { // P20.1 to P20.8, R5, P0.3
	c := &seen{answers: map[met]int{}}
	for seed := range int64(30) {
		t.Logf("seed %d", seed)
		play(t, rand.New(rand.NewSource(seed)), 2500, c)
	}
	c.isEnough(t)
}
