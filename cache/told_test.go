package cache

import (
	"cmp"
	"maps"
	"math/rand"
	"slices"
	"testing"
)

// told is the chapter told a second time: no sets, but one heap of entries that know when they were used; sets and their order are worked out from it when they are asked for.
type told struct {
	capacity     int
	clock        int
	entries      map[int]used
	hits, misses int
}

type used struct{ value, when int }

func newTold(capacity int) *told {
	return &told{capacity: capacity, entries: map[int]used{}}
}

func (x *told) clone() *told {
	y := *x
	y.entries = maps.Clone(x.entries)
	return &y
}

// setOf counts up from 0, and down from the last set for the keys below 0: -1 is the first of them.
func (x *told) setOf(key int) int {
	count := (x.capacity + 1) / 2
	if key < 0 {
		return count - 1 - ^key%count
	}
	return key % count
}

// roomOf deals the entries out, one to each set in turn, two times round.
func (x *told) roomOf(set int) int {
	room := 0
	for dealt := range x.capacity {
		if dealt%((x.capacity+1)/2) == set {
			room++
		}
	}
	return room
}

func (x *told) use(key, value int) {
	x.clock++
	x.entries[key] = used{value, x.clock}
}

func (x *told) get(key int) (int, bool) {
	e, there := x.entries[key]
	if !there {
		x.misses++
		return 0, false
	}
	x.hits++
	x.use(key, e.value)
	return e.value, true
}

func (x *told) put(key, value int) (key2, value2 int, dropped bool) {
	if x.capacity == 0 {
		return 0, 0, false
	}
	x.use(key, value)
	set := x.setOf(key)
	count, oldest := 0, key
	for other, e := range x.entries {
		if x.setOf(other) != set {
			continue
		}
		count++
		if e.when < x.entries[oldest].when {
			oldest = other
		}
	}
	if count <= x.roomOf(set) {
		return 0, 0, false
	}
	value2 = x.entries[oldest].value
	delete(x.entries, oldest)
	return oldest, value2, true
}

func (x *told) keys() []int {
	return slices.SortedFunc(maps.Keys(x.entries), func(a, b int) int {
		return cmp.Or(cmp.Compare(x.setOf(a), x.setOf(b)), cmp.Compare(x.entries[b].when, x.entries[a].when))
	})
}

func (x *told) clear() {
	maps.DeleteFunc(x.entries, func(int, used) bool { return true })
}

// The calls that a step may be of.
const (
	callGet = iota
	callPut
	callKeys
	callLen
	callHits
	callClear
)

// step is one call with its arguments and what it answered: the numbers in order, and the bool.
type step struct {
	call, key, value int
	a, b             int
	yes              bool
	list             []int
}

// ask does the call of a step on the cache and keeps the answer.
func (s *step) ask(c *Cache) {
	switch s.call {
	case callGet:
		s.a, s.yes = c.Get(s.key)
	case callPut:
		s.a, s.b, s.yes = c.Put(s.key, s.value)
	case callKeys:
		s.list = c.Keys()
	case callLen:
		s.a = c.Len()
	case callHits:
		s.a, s.b = c.Hits()
	case callClear:
		c.Clear()
	}
}

// tell does the call of a step by the second telling: what should have been answered.
func (s step) tell(x *told) step {
	want := step{call: s.call, key: s.key, value: s.value}
	switch s.call {
	case callGet:
		want.a, want.yes = x.get(s.key)
	case callPut:
		want.a, want.b, want.yes = x.put(s.key, s.value)
	case callKeys:
		want.list = x.keys()
	case callLen:
		want.a = len(x.entries)
	case callHits:
		want.a, want.b = x.hits, x.misses
	case callClear:
		x.clear()
	}
	return want
}

func (s step) same(other step) bool {
	return s.a == other.a && s.b == other.b && s.yes == other.yes && slices.Equal(s.list, other.list)
}

// randomKey takes few keys often, so that they are met again, and now and then one of any size.
func randomKey(r *rand.Rand, capacity int) int {
	switch r.Intn(12) {
	case 0:
		return []int{least, least + 1, greatest, greatest - 1, 1 << 32, -1 << 32}[r.Intn(6)]
	case 1:
		return int(r.Uint64())
	case 2, 3, 4:
		return r.Intn(4*capacity+4) - 2*capacity - 2
	default:
		return r.Intn(capacity + 2)
	}
}

func randomStep(r *rand.Rand, capacity int) step {
	s := step{key: randomKey(r, capacity), value: r.Intn(1000) - 500}
	switch n := r.Intn(1000); { // rarely Clear, so that the greatest caches fill up between
	case n < 400:
		s.call = callGet
	case n < 800:
		s.call = callPut
	case n < 875:
		s.call = callKeys
	case n < 925:
		s.call = callLen
	case n < 999:
		s.call = callHits
	default:
		s.call = callClear
	}
	return s
}

func TestRandomSteps(t *testing.T) { // P18.1 to P18.5
	for capacity := range 65 {
		for seed := range int64(3) {
			r := rand.New(rand.NewSource(seed*100 + int64(capacity)))
			c, second := newCache(t, capacity), newTold(capacity)
			for number := range 1500 {
				s := randomStep(r, capacity)
				s.ask(c)
				if want := s.tell(second); !s.same(want) {
					t.Fatalf("capacity %d, seed %d, step %d: %+v, want %+v", capacity, seed, number, s, want)
				}
				if number%10 != 0 {
					continue
				}
				if got, want := c.Keys(), second.keys(); !slices.Equal(got, want) {
					t.Fatalf("capacity %d, seed %d, behind step %d: the keys %v, want %v", capacity, seed, number, got, want)
				}
			}
		}
	}
}

func TestRandomStepsMeetAllCases(t *testing.T) { // the runs above are worth little if hits and drops are rare in them
	for _, capacity := range []int{1, 2, 3, 8, 9, 64} {
		r := rand.New(rand.NewSource(int64(capacity)))
		second := newTold(capacity)
		drops, full := 0, 0
		for range 1500 {
			if want := randomStep(r, capacity).tell(second); want.call == callPut && want.yes {
				drops++
			}
			if len(second.entries) == capacity {
				full++
			}
		}
		if drops < 50 || second.hits < 50 || second.misses < 50 || full == 0 {
			t.Errorf("capacity %d: %d drops, %d hits, %d misses, full %d times", capacity, drops, second.hits, second.misses, full)
		}
	}
}
