package cache

import (
	"slices"
	"testing"
)

// writeOver writes over a list as far as its memory goes, and grows it.
func writeOver(list []int) {
	whole := list[:cap(list)]
	for place := range whole {
		whole[place] = -7
	}
	_ = append(list[:len(list)/2], -8, -8, -8)
	_ = append(list, -9)
}

func TestKeysAreNewMemory(t *testing.T) { // R4
	for _, capacity := range capacities {
		for _, count := range []int{0, 1, capacity / 2, capacity} {
			c := newCache(t, capacity)
			for key := range min(count, capacity) {
				puts(t, c, key, key+100)
			}
			kept := c.Keys()
			want := slices.Clone(kept)
			writeOver(c.Keys())
			holds(t, c, want...)
			for key := range min(count, capacity) {
				finds(t, c, key, key+100)
			}
			if !slices.Equal(kept, want) {
				t.Errorf("capacity %d: writing over one answer turned another into %v, want %v", capacity, kept, want)
			}
		}
	}
}

func TestKeysStayAsTheyWere(t *testing.T) { // R4: what later calls do turns no earlier answer
	for _, capacity := range capacities {
		c := newCache(t, capacity)
		var answers, copies [][]int
		keep := func() {
			keys := c.Keys()
			answers, copies = append(answers, keys), append(copies, slices.Clone(keys))
		}
		for key := range 2 * capacity {
			keep()
			c.Put(key, 1)
			keep()
			c.Get(key - capacity/2)
		}
		keep()
		c.Clear()
		keep()
		c.Put(1, 1)
		for place, keys := range answers {
			if !slices.Equal(keys, copies[place]) {
				t.Errorf("capacity %d: answer %d was %v and is %v", capacity, place, copies[place], keys)
			}
		}
	}
}
