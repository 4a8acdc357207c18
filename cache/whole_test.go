package cache

import (
	"math/rand"
	"sync/atomic"
	"testing"
)

const crowd = 3 // goroutines of a history

// dated is a step with the moments at which its call began and had ended, by a clock that all goroutines share.
type dated struct {
	step
	began, ended int64
}

// history is what each of several goroutines did with one cache, in order.
type history [][]dated

// record lets as many goroutines as a history has do the steps of each history at one time, with a new cache for each.
func record(t *testing.T, capacity int, histories []history) {
	var clock atomic.Int64
	var begin meeting
	caches := make([]*Cache, len(histories))
	for number := range caches {
		caches[number] = newCache(t, capacity)
	}
	byMany(crowd, func(user int) {
		for number, h := range histories {
			begin.wait(crowd * (number + 1))
			for place := range h[user] {
				s := &h[user][place]
				s.began = clock.Add(1)
				s.ask(caches[number])
				s.ended = clock.Add(1)
			}
		}
	})
}

// overlaps tells whether any two calls of a history went on at one time: else it shows nothing.
func (h history) overlaps() bool {
	for user, steps := range h {
		for _, other := range h[user+1:] {
			for _, s := range steps {
				for _, o := range other {
					if s.began < o.ended && o.began < s.ended {
						return true
					}
				}
			}
		}
	}
	return false
}

// explained tells whether the calls could have been done one behind the other, each as a whole: in an order in which the second telling gives all the answers, and in which no call stands ahead of one that had ended before it began.
func (h history) explained(at []int, x *told) bool {
	left := false
	for user := range h {
		if at[user] == len(h[user]) {
			continue
		}
		left = true
		next := h[user][at[user]]
		if h.waits(at, next) {
			continue
		}
		y := x.clone()
		if !next.same(next.tell(y)) {
			continue
		}
		at[user]++
		if h.explained(at, y) {
			return true
		}
		at[user]--
	}
	return !left
}

// waits tells whether some call that is not done yet had ended before this one began.
func (h history) waits(at []int, next dated) bool {
	for user := range h {
		if at[user] < len(h[user]) && h[user][at[user]].ended < next.began {
			return true
		}
	}
	return false
}

// crowdedStep takes few keys of one set, so that the goroutines are in each other's way.
func crowdedStep(r *rand.Rand, capacity, value int) dated {
	sets := max(1, (capacity+1)/2)
	s := step{key: sets - 1 + sets*(r.Intn(3)-1), value: value}
	s.call = []int{callGet, callGet, callGet, callPut, callPut, callPut, callKeys, callLen, callHits, callHits, callClear}[r.Intn(11)]
	return dated{step: s}
}

func crowdedHistory(r *rand.Rand, capacity int) history {
	h := make(history, crowd)
	for user := range h {
		for place := range 5 {
			h[user] = append(h[user], crowdedStep(r, capacity, 10*user+place+1))
		}
	}
	return h
}

func TestEachCallIsDoneAsAWhole(t *testing.T) { // P18.6: by all calls, with answers that some order of the calls explains
	for _, capacity := range []int{0, 1, 2, 3, 4, 64} {
		r := rand.New(rand.NewSource(int64(capacity)))
		var histories []history
		for range 4000 {
			histories = append(histories, crowdedHistory(r, capacity))
		}
		record(t, capacity, histories)
		overlapping := 0
		for number, h := range histories {
			if h.overlaps() {
				overlapping++
			}
			if !h.explained(make([]int, crowd), newTold(capacity)) {
				t.Fatalf("capacity %d, history %d: no order of these calls explains their answers: %+v", capacity, number, h)
			}
		}
		t.Logf("capacity %d: in %d of %d histories calls went on at one time", capacity, overlapping, len(histories))
	}
}

func TestAnOrderIsAskedFor(t *testing.T) { // the test above must tell what can be explained from what cannot
	get := func(key, value int, there bool, began, ended int64) dated {
		return dated{step{call: callGet, key: key, a: value, yes: there}, began, ended}
	}
	put := func(key, value int, began, ended int64) dated {
		return dated{step{call: callPut, key: key, value: value}, began, ended}
	}
	hits := func(hits, misses int, began, ended int64) dated {
		return dated{step{call: callHits, a: hits, b: misses}, began, ended}
	}
	clear := func(began, ended int64) dated {
		return dated{step{call: callClear}, began, ended}
	}
	for place, c := range []struct {
		h    history
		want bool
	}{
		{history{{put(1, 10, 1, 4)}, {get(1, 10, true, 2, 3)}}, true},
		{history{{put(1, 10, 1, 4)}, {get(1, 0, false, 2, 3)}}, true},
		{history{{put(1, 10, 1, 2)}, {get(1, 0, false, 3, 4)}}, false}, // Put had ended
		{history{{put(1, 10, 3, 4)}, {get(1, 10, true, 1, 2)}}, false}, // Put had not begun
		{history{{put(1, 10, 1, 2)}, {get(1, 11, true, 3, 4)}}, false},
		{history{{put(1, 10, 1, 2), get(1, 10, true, 3, 8)}, {clear(4, 5), hits(1, 0, 6, 7)}}, true},
		{history{{put(1, 10, 1, 2), get(1, 10, true, 3, 8)}, {clear(4, 5), hits(0, 0, 6, 7)}}, false}, // the Get was ahead of Clear
		{history{{get(1, 0, false, 1, 2), put(1, 5, 3, 4), get(1, 5, true, 5, 8)}, {hits(1, 0, 6, 7)}}, false},
	} {
		if got := c.h.explained(make([]int, len(c.h)), newTold(1)); got != c.want {
			t.Errorf("history %d: %v", place, got)
		}
	}
}
