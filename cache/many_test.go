package cache

import (
	"math/rand"
	"runtime"
	"slices"
	"sync"
	"sync/atomic"
	"testing"
)

const (
	users  = 8    // goroutines that use one cache at one time
	rounds = 3000 // calls of each
)

// meeting is where goroutines wait for one another, again and again. They spin there: a call of a cache is far shorter than it takes to wake a goroutine.
type meeting struct{ come atomic.Int64 }

// wait goes on when so many have come.
func (m *meeting) wait(count int) {
	m.come.Add(1)
	for turn := 1; m.come.Load() < int64(count); turn++ {
		if turn%1000 == 0 { // the others may need this one's processor
			runtime.Gosched()
		}
	}
}

// atOnce lets all goroutines begin together, so that their calls fall between one another, and waits for them.
func atOnce(works ...func()) {
	var all sync.WaitGroup
	var begin meeting
	for _, work := range works {
		all.Go(func() {
			begin.wait(len(works))
			work()
		})
	}
	all.Wait()
}

// byMany lets so many goroutines do the same.
func byMany(count int, work func(user int)) {
	var works []func()
	for user := range count {
		works = append(works, func() { work(user) })
	}
	atOnce(works...)
}

// valueOf is a value that belongs to the key alone, whoever puts it, and when.
func valueOf(key, round int) int {
	return key*1000 + round%1000
}

func belongs(key, value int) bool {
	return value >= key*1000 && value < key*1000+1000
}

// soundKeys tells whether a list may be the keys of a cache at some moment: none twice, and in each set no more than it has room for.
func soundKeys(capacity int, keys []int) bool {
	second := newTold(capacity)
	in := map[int]int{}
	for place, key := range keys {
		set := second.setOf(key)
		in[set]++
		if slices.Contains(keys[:place], key) || in[set] > second.roomOf(set) {
			return false
		}
		if place > 0 && second.setOf(keys[place-1]) > set {
			return false
		}
	}
	return true
}

// useAll goes through all calls, and tells how many of its Gets were hits and misses.
func useAll(t *testing.T, c *Cache, capacity, user int) (hits, misses int) {
	r := rand.New(rand.NewSource(int64(user)))
	for round := range rounds {
		key := r.Intn(capacity+4) - 2
		switch n := r.Intn(100); {
		case n < 45:
			value, there := c.Get(key)
			if there {
				hits++
			} else {
				misses++
			}
			if there && !belongs(key, value) || !there && value != 0 {
				t.Errorf("Get(%d) = %d, %v", key, value, there)
			}
		case n < 90:
			key2, value2, dropped := c.Put(key, valueOf(key, round))
			if dropped && (key2 == key || !belongs(key2, value2)) || !dropped && (key2 != 0 || value2 != 0) {
				t.Errorf("Put(%d, ..) = %d, %d, %v", key, key2, value2, dropped)
			}
		case n < 94:
			if keys := c.Keys(); !soundKeys(capacity, keys) {
				t.Errorf("Keys() = %v", keys)
			}
		case n < 97:
			if count := c.Len(); count < 0 || count > capacity {
				t.Errorf("Len() = %d", count)
			}
		case n < 99:
			if h, m := c.Hits(); h < hits || m < misses || h+m > users*rounds {
				t.Errorf("Hits() = %d, %d behind %d and %d of this goroutine alone", h, m, hits, misses)
			}
		default:
			c.Clear()
		}
	}
	return hits, misses
}

func TestManyUseAllCalls(t *testing.T) { // P18.6: no hit or miss is lost, and no key has a value that was not put for it
	for _, capacity := range capacities {
		c := newCache(t, capacity)
		var hits, misses atomic.Int64
		byMany(users, func(user int) {
			h, m := useAll(t, c, capacity, user)
			hits.Add(int64(h))
			misses.Add(int64(m))
		})
		hitsAre(t, c, int(hits.Load()), int(misses.Load()))
		if keys := c.Keys(); !soundKeys(capacity, keys) || c.Len() != len(keys) {
			t.Errorf("capacity %d: in the end %d keys: %v", capacity, c.Len(), keys)
		}
		if t.Failed() {
			t.Fatalf("capacity %d", capacity)
		}
	}
}

func TestManyPut(t *testing.T) { // P18.6: each entry that was put is dropped just once, or still there
	for _, capacity := range capacities[1:] {
		c := newCache(t, capacity)
		gone := make([][]int, users)
		byMany(users, func(user int) {
			for round := range rounds {
				key := round*users + user // no key is put twice
				key2, value2, dropped := c.Put(key, -key)
				if dropped {
					gone[user] = append(gone[user], key2)
				}
				if value2 != -key2 {
					t.Errorf("Put(%d, ..) = %d, %d, %v", key, key2, value2, dropped)
				}
			}
		})
		all := slices.Concat(slices.Concat(gone...), c.Keys())
		slices.Sort(all)
		for place, key := range all {
			if key != place {
				t.Fatalf("capacity %d: key %d has been dropped twice, or got lost", capacity, min(key, place))
			}
		}
		if len(all) != users*rounds {
			t.Errorf("capacity %d: %d keys were put, %d are dropped or there", capacity, users*rounds, len(all))
		}
	}
}

func TestManyPutOneKey(t *testing.T) { // P18.6: no goroutine sees another's entry of the same key dropped, or two of them
	for _, capacity := range capacities[1:] {
		c := newCache(t, capacity)
		byMany(users, func(user int) {
			for round := range rounds {
				if _, _, dropped := c.Put(3, valueOf(3, round)); dropped {
					t.Error("Put of the key that is there has dropped something")
				}
				if value, there := c.Get(3); !there || !belongs(3, value) {
					t.Errorf("Get(3) = %d, %v", value, there)
				}
				if keys := c.Keys(); !slices.Equal(keys, []int{3}) {
					t.Errorf("Keys() = %v", keys)
				}
			}
		})
		hitsAre(t, c, users*rounds, 0)
	}
}

func TestHitsAreOfOneMoment(t *testing.T) { // P18.6: while one goroutine has hits and misses by turns, there is never one more miss than hits
	for _, capacity := range capacities[1:] {
		c := cacheOf(t, capacity, 3)
		var done atomic.Bool
		atOnce(func() {
			for range 20 * rounds {
				c.Get(3)
				c.Get(4)
			}
			done.Store(true)
		}, func() {
			for !done.Load() {
				if hits, misses := c.Hits(); hits < misses || hits > misses+1 {
					t.Errorf("capacity %d: Hits() = %d, %d", capacity, hits, misses)
					return
				}
				runtime.Gosched()
			}
		})
	}
}

func TestGetIsCountedWhenItLooks(t *testing.T) { // P18.6: behind Clear there are no more hits till the next Put
	for _, capacity := range []int{1, 2, 3, 8} {
		c := newCache(t, capacity)
		var done atomic.Bool
		get := func() {
			for !done.Load() {
				for range 100 {
					c.Get(3)
				}
				runtime.Gosched() // else the others wait long for their turn, where processors are few
			}
		}
		atOnce(get, get, get, get, func() {
			defer done.Store(true)
			for range rounds {
				c.Put(3, 30)
				runtime.Gosched()
				c.Clear()
				before, _ := c.Hits()
				for range 50 {
					c.Len()
				}
				if hits, _ := c.Hits(); hits != before {
					t.Errorf("capacity %d: %d hits, and then %d of an empty cache", capacity, before, hits)
					return
				}
			}
		})
	}
}

func TestClearAndKeysGoThroughAllSetsAtOnce(t *testing.T) { // P18.6: while keys are put in order and cleared, those that are there are always the first ones
	for _, capacity := range []int{3, 8, 9, 64} {
		c := newCache(t, capacity)
		var done atomic.Bool
		look := func() {
			for !done.Load() {
				keys := c.Keys()
				slices.Sort(keys)
				for place, key := range keys {
					if key != place {
						t.Errorf("capacity %d: Keys() has %v, and no %d", capacity, keys, place)
						return
					}
				}
				runtime.Gosched()
			}
		}
		atOnce(look, look, look, func() {
			defer done.Store(true)
			for range rounds {
				for key := range capacity {
					c.Put(key, 1)
				}
				c.Clear()
				if keys := c.Keys(); len(keys) > 0 {
					t.Errorf("capacity %d: behind Clear Keys() = %v", capacity, keys)
					return
				}
			}
		})
	}
}

func TestManyOnNil(t *testing.T) { // P18.6
	var c *Cache
	byMany(users, func(user int) {
		for range 100 {
			c.Put(user, 1)
			value, there := c.Get(user)
			hits, misses := c.Hits()
			c.Clear()
			if value != 0 || there || hits != 0 || misses != 0 || c.Len() != 0 || len(c.Keys()) != 0 {
				t.Error("a nil Cache has answered something")
				return
			}
		}
	})
}
