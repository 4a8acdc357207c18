package cache

import (
	"slices"
	"sync"
	"sync/atomic"
)

// entry is a key with its value. It is never turned where others may see it.
type entry struct{ key, value int }

// store keeps entries. Several goroutines may use it at one time, each of its calls is done as a whole.
type store interface {
	find(key int) (value int, there bool)
	put(e entry) (out entry, dropped bool)
	keys() []int
	empty()
}

func newStore(capacity int) store {
	switch capacity {
	case 0:
		return none{}
	case 1:
		return &single{}
	}
	return newSets(capacity)
}

// none is the store of capacity 0.
type none struct{}

func (none) find(int) (int, bool) { return 0, false }

func (none) put(entry) (entry, bool) { return entry{}, false }

func (none) keys() []int { return nil }

func (none) empty() {}

// single is the store of capacity 1: nil, while it is empty. Each call goes to the pointer once, and so needs no lock.
type single struct{ at atomic.Pointer[entry] }

func (s *single) find(key int) (value int, there bool) {
	e := s.at.Load()
	if e == nil || e.key != key {
		return 0, false
	}
	return e.value, true
}

func (s *single) put(e entry) (out entry, dropped bool) {
	before := s.at.Swap(&e)
	if before == nil || before.key == e.key {
		return entry{}, false
	}
	return *before, true
}

func (s *single) keys() []int {
	e := s.at.Load()
	if e == nil {
		return nil
	}
	return []int{e.key}
}

func (s *single) empty() {
	s.at.Store(nil)
}

// sets is the store of the greater capacities.
type sets struct {
	mutex sync.Mutex
	all   []set
}

func newSets(capacity int) *sets {
	all := make([]set, (capacity+1)/2)
	for at := range all {
		all[at].room = min(2, capacity-2*at)
	}
	return &sets{all: all}
}

func (s *sets) find(key int) (value int, there bool) {
	s.mutex.Lock()
	defer s.mutex.Unlock()
	return s.setOf(key).find(key)
}

func (s *sets) put(e entry) (out entry, dropped bool) {
	s.mutex.Lock()
	defer s.mutex.Unlock()
	return s.setOf(e.key).put(e)
}

func (s *sets) keys() []int {
	s.mutex.Lock()
	defer s.mutex.Unlock()
	var keys []int
	for _, one := range s.all {
		for _, e := range one.entries {
			keys = append(keys, e.key)
		}
	}
	return keys
}

func (s *sets) empty() {
	s.mutex.Lock()
	defer s.mutex.Unlock()
	for at := range s.all {
		s.all[at].entries = nil
	}
}

// setOf takes any key: the language's rest of one below 0 is itself below 0, or 0.
func (s *sets) setOf(key int) *set {
	rest := key % len(s.all)
	if rest < 0 {
		rest += len(s.all)
	}
	return &s.all[rest]
}

// set is the entries of one set, the one that was used last first.
type set struct {
	room    int
	entries []entry
}

func (s *set) find(key int) (value int, there bool) {
	e, there := s.take(key)
	if there {
		s.lead(e)
	}
	return e.value, there
}

func (s *set) put(e entry) (out entry, dropped bool) {
	s.take(e.key) // where it was there, the set is not full behind this
	if len(s.entries) == s.room {
		last := s.entries[s.room-1]
		out, dropped = s.take(last.key)
	}
	s.lead(e)
	return out, dropped
}

// take takes the entry of a key out of the set, if it is there.
func (s *set) take(key int) (e entry, there bool) {
	at := slices.IndexFunc(s.entries, func(e entry) bool { return e.key == key })
	if at < 0 {
		return entry{}, false
	}
	e = s.entries[at]
	s.entries = slices.Delete(s.entries, at, at+1)
	return e, true
}

// lead puts an entry, for which there is room, ahead of the others.
func (s *set) lead(e entry) {
	s.entries = slices.Insert(s.entries, 0, e)
}
