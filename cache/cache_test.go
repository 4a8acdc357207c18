package cache

import (
	"math"
	"slices"
	"testing"

	"arbiter/api"
)

const least, greatest = math.MinInt, math.MaxInt

// capacities are those whose sets differ in kind: none, one entry, and greater ones that are even and odd.
var capacities = []int{0, 1, 2, 3, 4, 5, 8, 9, 63, 64}

// oddCapacities are capacities of no cache.
var oddCapacities = []int{-1, 65, -2, 66, -64, 100, 1000, least, greatest, math.MinInt32, math.MaxInt32, 1 << 32, 1<<32 + 1, -1<<32 + 1}

func newCache(t *testing.T, capacity int) *Cache {
	t.Helper()
	c, e := New(capacity)
	if c == nil || e != api.OK {
		t.Fatalf("New(%d) = %v, %d", capacity, c, e)
	}
	return c
}

// cacheOf has had so many keys put into it, each with ten times itself as its value.
func cacheOf(t *testing.T, capacity int, keys ...int) *Cache {
	t.Helper()
	c := newCache(t, capacity)
	for _, key := range keys {
		c.Put(key, 10*key)
	}
	return c
}

// holds asks for the keys, and how many there are; both calls leave the hits.
func holds(t *testing.T, c *Cache, want ...int) {
	t.Helper()
	hits, misses := c.Hits()
	if got := c.Keys(); !slices.Equal(got, want) {
		t.Errorf("Keys() = %v, want %v", got, want)
	}
	if got := c.Len(); got != len(want) {
		t.Errorf("Len() = %d, want %d", got, len(want))
	}
	hitsAre(t, c, hits, misses)
}

func hitsAre(t *testing.T, c *Cache, hits, misses int) {
	t.Helper()
	if h, m := c.Hits(); h != hits || m != misses {
		t.Errorf("Hits() = %d, %d, want %d, %d", h, m, hits, misses)
	}
}

// finds asks for a key that is there, which is one hit.
func finds(t *testing.T, c *Cache, key, want int) {
	t.Helper()
	hits, misses := c.Hits()
	if got, there := c.Get(key); got != want || !there {
		t.Errorf("Get(%d) = %d, %v, want %d", key, got, there, want)
	}
	hitsAre(t, c, hits+1, misses)
}

// lacks asks for keys that are not there, which is a miss each.
func lacks(t *testing.T, c *Cache, keys ...int) {
	t.Helper()
	for _, key := range keys {
		hits, misses := c.Hits()
		if got, there := c.Get(key); got != 0 || there {
			t.Errorf("Get(%d) = %d, %v, want nothing", key, got, there)
		}
		hitsAre(t, c, hits, misses+1)
	}
}

// puts puts an entry for which none is dropped; that leaves the hits.
func puts(t *testing.T, c *Cache, key, value int) {
	t.Helper()
	hits, misses := c.Hits()
	if key2, value2, dropped := c.Put(key, value); key2 != 0 || value2 != 0 || dropped {
		t.Errorf("Put(%d, %d) = %d, %d, %v, want nothing", key, value, key2, value2, dropped)
	}
	hitsAre(t, c, hits, misses)
}

// drops puts an entry for which another is dropped; that leaves the hits.
func drops(t *testing.T, c *Cache, key, value, wantKey, wantValue int) {
	t.Helper()
	hits, misses := c.Hits()
	if key2, value2, dropped := c.Put(key, value); key2 != wantKey || value2 != wantValue || !dropped {
		t.Errorf("Put(%d, %d) = %d, %d, %v, want %d, %d", key, value, key2, value2, dropped, wantKey, wantValue)
	}
	hitsAre(t, c, hits, misses)
}

// clears empties the cache; that leaves the hits.
func clears(t *testing.T, c *Cache) {
	t.Helper()
	hits, misses := c.Hits()
	c.Clear()
	hitsAre(t, c, hits, misses)
	holds(t, c)
}

func TestExamples(t *testing.T) { // the chapter's examples
	for _, capacity := range []int{-1, 65} {
		if c, e := New(capacity); c != nil || e != api.ErrBadConfig {
			t.Errorf("New(%d) = %v, %d", capacity, c, e)
		}
	}
	c := newCache(t, 1)
	puts(t, c, 5, 50)
	drops(t, c, 6, 60, 5, 50)
	holds(t, c, 6)

	c = newCache(t, 4)
	puts(t, c, 0, 10)
	puts(t, c, 2, 12)
	drops(t, c, 4, 14, 0, 10)
	finds(t, c, 2, 12)
	drops(t, c, 6, 16, 4, 14)
	holds(t, c, 6, 2)

	c = newCache(t, 3)
	puts(t, c, 1, 11)
	drops(t, c, 3, 13, 1, 11)
	drops(t, c, -1, 9, 3, 13)
	holds(t, c, -1)

	c = newCache(t, 0)
	puts(t, c, 1, 1)
	lacks(t, c, 1)
	hitsAre(t, c, 0, 1)
}

func TestNew(t *testing.T) { // P18.1
	for capacity := 0; capacity <= 64; capacity++ {
		c := newCache(t, capacity)
		holds(t, c)
		hitsAre(t, c, 0, 0)
		lacks(t, c, 0, 1, -1, capacity, least, greatest)
		hitsAre(t, c, 0, 6)
	}
	for _, capacity := range oddCapacities {
		if c, e := New(capacity); c != nil || e != api.ErrBadConfig {
			t.Errorf("New(%d) = %v, %d", capacity, c, e)
		}
	}
}

func TestKindsOfStores(t *testing.T) { // which kind it is turns no answer, so it is asked for here
	for capacity := range 65 {
		var right bool
		switch store := newCache(t, capacity).store.(type) {
		case none:
			right = capacity == 0
		case *single:
			right = capacity == 1
		case *sets:
			right = capacity >= 2 && len(store.all) == (capacity+1)/2
		}
		if !right {
			t.Errorf("capacity %d has the store of another", capacity)
		}
	}
}

func TestCachesStandAlone(t *testing.T) { // P18.1: what is put into one is in no other
	for _, capacity := range []int{1, 2, 3, 64} {
		x, y := newCache(t, capacity), newCache(t, capacity)
		puts(t, x, 7, 70)
		holds(t, y)
		lacks(t, y, 7)
		hitsAre(t, x, 0, 0)
		puts(t, y, 7, 71)
		finds(t, x, 7, 70)
		clears(t, y)
		holds(t, x, 7)
		hitsAre(t, x, 1, 0)
		hitsAre(t, y, 0, 1)
	}
}

func TestAsManyAsTheCapacity(t *testing.T) { // P18.3, P18.4: keys from 0 on fill all sets, and later ones push them out
	for capacity := 1; capacity <= 64; capacity++ {
		c, count := newCache(t, capacity), (capacity+1)/2
		for key := range capacity {
			puts(t, c, key, key+100)
		}
		var want []int
		for at := range count {
			if at+count < capacity { // else it is the set with room for one
				want = append(want, at+count)
			}
			want = append(want, at)
		}
		holds(t, c, want...)
		for key := range capacity {
			finds(t, c, key, key+100)
		}
		holds(t, c, want...)
		for at := range count {
			drops(t, c, at+2*count, -at, at, at+100)
			if at+count < capacity {
				drops(t, c, at+3*count, -at, at+count, at+count+100)
			} else {
				drops(t, c, at+3*count, -at, at+2*count, -at)
			}
		}
		if t.Failed() {
			t.Fatalf("capacity %d", capacity)
		}
	}
}

func TestGet(t *testing.T) { // P18.2: the order behind each is told by Keys
	c := cacheOf(t, 4, 0, 2, 1, 3)
	holds(t, c, 2, 0, 3, 1)
	finds(t, c, 0, 0) // the last of its set
	holds(t, c, 0, 2, 3, 1)
	finds(t, c, 0, 0) // the first of its set
	holds(t, c, 0, 2, 3, 1)
	finds(t, c, 1, 10)
	holds(t, c, 0, 2, 1, 3)
	lacks(t, c, 4, 5, -1, -2, 6, 10, 30, least, greatest) // nor is a value a key
	holds(t, c, 0, 2, 1, 3)
	hitsAre(t, c, 3, 9)

	drops(t, c, 4, 40, 2, 20)
	lacks(t, c, 2) // it was dropped
	holds(t, c, 4, 0, 1, 3)
	drops(t, c, 2, 21, 0, 0) // and comes back with another value
	finds(t, c, 2, 21)
	holds(t, c, 2, 4, 1, 3)
	lacks(t, c, 0)
}

func TestGetInASetOfOne(t *testing.T) { // P18.2
	c := cacheOf(t, 1, 5)
	finds(t, c, 5, 50)
	finds(t, c, 5, 50)
	lacks(t, c, 0, 4, 6, -5, 50)
	holds(t, c, 5)
	drops(t, c, 6, 60, 5, 50)
	lacks(t, c, 5)
	finds(t, c, 6, 60)
	holds(t, c, 6)

	c = cacheOf(t, 3, 0, 2, 1)
	finds(t, c, 1, 10)
	holds(t, c, 2, 0, 1)
	drops(t, c, 3, 30, 1, 10)
	lacks(t, c, 1)
	finds(t, c, 3, 30)
	holds(t, c, 2, 0, 3)
}

func TestGetDecidesWhatIsDropped(t *testing.T) { // P18.2 with P18.3
	for _, capacity := range []int{2, 4, 5, 63, 64} {
		count := (capacity + 1) / 2
		c := cacheOf(t, capacity, 0, count)
		finds(t, c, 0, 0)
		drops(t, c, 2*count, 7, count, 10*count)
		holds(t, c, 2*count, 0)

		c = cacheOf(t, capacity, 0, count)
		finds(t, c, 0, 0)
		finds(t, c, count, 10*count)
		drops(t, c, 2*count, 7, 0, 0)
		holds(t, c, 2*count, count)

		c = cacheOf(t, capacity, 0, count)
		lacks(t, c, 2*count) // which is no use of any entry
		drops(t, c, 2*count, 7, 0, 0)
		holds(t, c, 2*count, count)
	}
}

func TestPutOfANewKey(t *testing.T) { // P18.3: into an empty set, one with room, a full one
	c := newCache(t, 2)
	puts(t, c, 5, 50)
	holds(t, c, 5)
	puts(t, c, 6, 60)
	holds(t, c, 6, 5)
	drops(t, c, 7, 70, 5, 50)
	holds(t, c, 7, 6)
	drops(t, c, 5, 51, 6, 60)
	holds(t, c, 5, 7)
	finds(t, c, 7, 70)
	finds(t, c, 5, 51)
	lacks(t, c, 6)

	// What is dropped is of the key's own set, however full the others are.
	c = cacheOf(t, 6, 0, 3, 1, 4)
	puts(t, c, 2, 20)
	puts(t, c, 5, 50)
	drops(t, c, 7, 70, 1, 10)
	holds(t, c, 3, 0, 7, 4, 5, 2)
	drops(t, c, 8, 80, 2, 20)
	holds(t, c, 3, 0, 7, 4, 8, 5)
}

func TestPutOfAKeyThatIsThere(t *testing.T) { // P18.3
	c := cacheOf(t, 2, 5, 6)
	puts(t, c, 6, 61) // the first of its set
	holds(t, c, 6, 5)
	finds(t, c, 6, 61)
	puts(t, c, 5, 51) // the last of its set
	holds(t, c, 5, 6)
	puts(t, c, 5, 52)
	holds(t, c, 5, 6)
	finds(t, c, 6, 61)
	finds(t, c, 5, 52)
	puts(t, c, 6, 62)
	drops(t, c, 7, 70, 5, 52) // so the other one is dropped now, with its last value
	drops(t, c, 8, 80, 6, 62)
	holds(t, c, 8, 7)

	c = cacheOf(t, 4, 0, 1) // sets with room
	puts(t, c, 0, 3)
	puts(t, c, 1, 4)
	holds(t, c, 0, 1)
	puts(t, c, 2, 5)
	holds(t, c, 2, 0, 1)
	drops(t, c, 4, 6, 0, 3)

	c = cacheOf(t, 1, 5)
	puts(t, c, 5, 51)
	puts(t, c, 5, 0)
	holds(t, c, 5)
	finds(t, c, 5, 0)
	puts(t, c, 5, 53)
	drops(t, c, 6, 60, 5, 53)
}

func TestPutIntoTheLastSetOfAnOddCapacity(t *testing.T) { // P18.3: it has room for one
	for _, capacity := range []int{1, 3, 5, 9, 33, 63} {
		count := (capacity + 1) / 2
		last := count - 1
		c := newCache(t, capacity)
		puts(t, c, last, 1)
		holds(t, c, last)
		puts(t, c, last, 2)
		holds(t, c, last)
		drops(t, c, last+count, 3, last, 2)
		holds(t, c, last+count)
		drops(t, c, -1, 4, last+count, 3)
		holds(t, c, -1)
		if last > 0 { // the sets ahead have room for two
			puts(t, c, 0, 5)
			puts(t, c, count, 6)
			drops(t, c, 2*count, 7, 0, 5)
			holds(t, c, 2*count, count, -1)
		}
	}
	for _, capacity := range []int{2, 4, 10, 62, 64} { // of an even one it has room for two
		count := capacity / 2
		c := cacheOf(t, capacity, count-1, 2*count-1)
		holds(t, c, 2*count-1, count-1)
		drops(t, c, -1, 4, count-1, 10*(count-1))
		holds(t, c, -1, 2*count-1)
	}
}

func TestCapacityNone(t *testing.T) { // P18.3: at capacity 0 nothing changes
	c := newCache(t, 0)
	for _, key := range []int{0, 0, 1, -1, least, greatest} {
		puts(t, c, key, 7)
		holds(t, c)
		lacks(t, c, key)
	}
	clears(t, c)
	puts(t, c, 0, 7)
	lacks(t, c, 0)
	hitsAre(t, c, 0, 7)
}

func TestNoughts(t *testing.T) { // P18.2, P18.3: key 0 and value 0 are like any other
	for _, capacity := range []int{1, 2, 3, 64} {
		c := newCache(t, capacity)
		lacks(t, c, 0)
		puts(t, c, 0, 0)
		holds(t, c, 0)
		finds(t, c, 0, 0)
	}
	c := newCache(t, 1)
	puts(t, c, 0, 0)
	drops(t, c, 1, 0, 0, 0)
	drops(t, c, 0, 5, 1, 0)
	c = newCache(t, 2)
	puts(t, c, 0, 0)
	puts(t, c, 1, 1)
	drops(t, c, 2, 2, 0, 0)
}

func TestValuesOfAllSizes(t *testing.T) { // P18.2, P18.3
	for _, value := range []int{0, 1, -1, least, greatest, 1 << 32, -1 << 32, 1<<32 + 1} {
		for _, capacity := range []int{1, 2, 3} {
			c := newCache(t, capacity)
			puts(t, c, 1, value)
			finds(t, c, 1, value)
		}
		c := newCache(t, 1)
		puts(t, c, 9, value)
		drops(t, c, 8, 0, 9, value)
		c = newCache(t, 3)
		puts(t, c, 9, value)
		drops(t, c, 7, 0, 9, value)
	}
}

func TestKeysBelowNought(t *testing.T) { // P18.3: they belong to the set of the rest that is not negative
	// Six sets of two; one key of each set from 0 on, then one below 0.
	c := newCache(t, 12)
	for key := range 6 {
		puts(t, c, key, 0)
	}
	for key := -12; key < -6; key++ {
		puts(t, c, key, 1)
	}
	holds(t, c, -12, 0, -11, 1, -10, 2, -9, 3, -8, 4, -7, 5)
	for key := -6; key < 0; key++ {
		drops(t, c, key, 2, key+6, 0)
	}
	holds(t, c, -6, -12, -5, -11, -4, -10, -3, -9, -2, -8, -1, -7)
	finds(t, c, -12, 1)
	finds(t, c, -1, 2)
	lacks(t, c, 0, 1, 6, 12, -13)

	// A key and its opposite are two keys.
	c = cacheOf(t, 2, 5)
	lacks(t, c, -5)
	puts(t, c, -5, 3)
	holds(t, c, -5, 5)
}

func TestKeysAtTheEnds(t *testing.T) { // P18.3: the least int is -2^63, the greatest 2^63 - 1
	for _, c := range []struct{ capacity, setOfLeast, setOfGreatest int }{
		{1, 0, 0}, {2, 0, 0},
		{3, 0, 1}, {4, 0, 1}, // 2 sets
		{5, 1, 1}, {6, 1, 1}, // 3 sets: 2^63 is 2 mod 3
		{7, 0, 3}, {8, 0, 3}, // 4 sets
		{10, 2, 2},             // 5 sets: 2^63 is 3 mod 5
		{14, 6, 0},             // 7 sets: 2^63 is 1 mod 7
		{19, 2, 7}, {20, 2, 7}, // 10 sets: 2^63 is 8 mod 10
		{63, 0, 31}, {64, 0, 31}, // 32 sets
	} {
		count := (c.capacity + 1) / 2
		for _, key := range []struct{ key, set int }{{least, c.setOfLeast}, {greatest, c.setOfGreatest}} {
			// It pushes out just the keys of its own set.
			x := newCache(t, c.capacity)
			for other := range c.capacity {
				puts(t, x, other, other+1)
			}
			drops(t, x, key.key, 5, key.set, key.set+1)
			finds(t, x, key.key, 5)
			lacks(t, x, key.set)
			if got, want := slices.Index(x.Keys(), key.key), 2*key.set; got != want {
				t.Errorf("capacity %d: key %d is at place %d of the keys, want %d", c.capacity, key.key, got, want)
			}
			if key.set < c.capacity-count {
				finds(t, x, key.set+count, key.set+count+1)
			}
		}
	}
	for _, capacity := range []int{2, 64} {
		c := newCache(t, capacity)
		puts(t, c, least, 1)
		puts(t, c, greatest, 2)
		finds(t, c, least, 1)
		finds(t, c, greatest, 2)
		lacks(t, c, least+1, greatest-1, 0, -1)
		puts(t, c, least, 3)
		finds(t, c, least, 3)
	}
}

func TestKeysSetBySet(t *testing.T) { // P18.4
	c := newCache(t, 7) // four sets, the last with room for one
	holds(t, c)
	puts(t, c, 3, 1)
	holds(t, c, 3)
	puts(t, c, 5, 1)
	holds(t, c, 5, 3)
	puts(t, c, 0, 1)
	holds(t, c, 0, 5, 3)
	puts(t, c, 1, 1)
	holds(t, c, 0, 1, 5, 3)
	puts(t, c, 6, 1)
	puts(t, c, 4, 1)
	holds(t, c, 4, 0, 1, 5, 6, 3)
	puts(t, c, 2, 1)
	holds(t, c, 4, 0, 1, 5, 2, 6, 3)
	finds(t, c, 5, 1)
	holds(t, c, 4, 0, 5, 1, 2, 6, 3)
	for range 3 { // asking turns nothing
		holds(t, c, 4, 0, 5, 1, 2, 6, 3)
	}
}

func TestHits(t *testing.T) { // P18.5
	for _, capacity := range capacities {
		c := newCache(t, capacity)
		hitsAre(t, c, 0, 0)
		hits, misses := 0, 0
		for round := range 50 {
			c.Put(round, round)
			c.Get(-7 - round)
			misses++
			hitsAre(t, c, hits, misses)
			c.Get(round)
			if capacity > 0 {
				hits++
			} else {
				misses++
			}
			hitsAre(t, c, hits, misses)
			c.Keys()
			c.Len()
			hitsAre(t, c, hits, misses)
			if round%10 == 9 {
				clears(t, c)
			}
			hitsAre(t, c, hits, misses)
		}
	}
}

func TestClear(t *testing.T) { // P18.5
	for _, capacity := range capacities {
		c := newCache(t, capacity)
		clears(t, c) // of an empty one
		for round := range 3 {
			for key := range capacity {
				puts(t, c, key, key+round)
			}
			if c.Len() != capacity {
				t.Errorf("capacity %d: Len() = %d", capacity, c.Len())
			}
			before, _ := c.Hits()
			for key := range capacity {
				finds(t, c, key, key+round)
			}
			hits, misses := c.Hits()
			if hits != before+capacity {
				t.Errorf("capacity %d: %d hits behind %d", capacity, hits, before)
			}
			clears(t, c)
			clears(t, c)
			hitsAre(t, c, hits, misses)
			for key := range capacity {
				lacks(t, c, key)
			}
			hitsAre(t, c, hits, misses+capacity)
		}
	}
}

func TestPutBehindClear(t *testing.T) { // P18.5: the sets have their room again, and no more
	c := cacheOf(t, 3, 0, 2, 1)
	clears(t, c)
	puts(t, c, 3, 30)
	holds(t, c, 3)
	puts(t, c, 2, 21)
	puts(t, c, 0, 1)
	holds(t, c, 0, 2, 3)
	drops(t, c, 4, 40, 2, 21)
	drops(t, c, 1, 11, 3, 30)
	holds(t, c, 4, 0, 1)

	c = cacheOf(t, 1, 5)
	clears(t, c)
	puts(t, c, 5, 51) // of the key that was there
	finds(t, c, 5, 51)
	clears(t, c)
	puts(t, c, 6, 60)
	lacks(t, c, 5)
	drops(t, c, 5, 52, 6, 60)
}

func TestNilCache(t *testing.T) { // P18.6, R6
	var c *Cache
	for range 2 {
		for _, key := range []int{0, 1, -1, least, greatest} {
			puts(t, c, key, 5)
			puts(t, c, key, key)
			if value, there := c.Get(key); value != 0 || there {
				t.Errorf("Get(%d) = %d, %v", key, value, there)
			}
		}
		holds(t, c)
		hitsAre(t, c, 0, 0)
		clears(t, c)
	}
}

func TestCacheThatNewDidNotMake(t *testing.T) { // P0.1: it has no room, and answers as a nil one
	c := new(Cache)
	puts(t, c, 1, 5)
	if value, there := c.Get(1); value != 0 || there {
		t.Errorf("Get(1) = %d, %v", value, there)
	}
	holds(t, c)
	hitsAre(t, c, 0, 0)
	clears(t, c)
}
