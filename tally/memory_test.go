package tally

import (
	"slices"
	"testing"

	"arbiter/api"
)

// writeOver writes over a list as far as its memory goes, and grows it.
func writeOver(list []int) {
	whole := list[:cap(list)]
	for place := range whole {
		whole[place] = -7
	}
	_ = append(list[:len(list)/2], -8, -8, -8)
	_ = append(list, -9)
}

func TestAnswersAreNewMemory(t *testing.T) { // R4
	for _, n := range []int{1, 2, 3, 5, 64} {
		x := newTally(t, n)
		var want []int
		for k := range n {
			added(t, x, k, 10*k+1, 10*k+1)
			want = append(want, 10*k+1)
		}
		kept := x.All()
		writeOver(x.All())
		holds(t, x, want...)

		took := x.Take()
		holds(t, x, make([]int, n)...)
		for k := range n {
			added(t, x, k, 3, 3)
		}
		if !slices.Equal(kept, want) || !slices.Equal(took, want) {
			t.Errorf("later calls turned what All and Take had answered into %v and %v, want %v", kept, took, want)
		}
		writeOver(took)
		holds(t, x, repeated(3, n)...)
		if !slices.Equal(kept, want) {
			t.Errorf("writing over an answer of Take turned one of All into %v, want %v", kept, want)
		}
		writeOver(x.Take())
		holds(t, x, make([]int, n)...)
	}
}

func TestSpreadLeavesTheList(t *testing.T) { // R4: spare room included
	for _, spare := range []int{0, 1, 2, -1, 99} { // what lies behind the list's length is no part of it, whatever it is
		for _, workers := range []int{1, 2, 5, 16} {
			whole := slices.Concat([]int{2, 0, 1, 2, 2}, repeated(spare, 20))
			before := slices.Clone(whole)
			x := newTally(t, 3)
			spread(t, x, whole[:5], workers)
			holds(t, x, 1, 1, 3)
			spread(t, x, whole[:0], workers)
			holds(t, x, 1, 1, 3)
			spreadRefused(t, x, whole[:5], 0, api.ErrArg)
			if !slices.Equal(whole, before) {
				t.Errorf("Spread turned %v into %v", before, whole)
			}
		}
	}
	whole := repeated(0, 5000)
	x := newTally(t, 1)
	spread(t, x, whole[:4096], 16)
	spreadRefused(t, x, whole, 16, api.ErrLarge)
	holds(t, x, 4096)
	if !slices.Equal(whole, repeated(0, 5000)) {
		t.Errorf("Spread turned a long list")
	}
}

func TestSpreadKeepsNoList(t *testing.T) { // R4: it may be written over behind the call
	x := newTally(t, 3)
	list := []int{0, 1, 1}
	spread(t, x, list, 2)
	writeOver(list)
	holds(t, x, 1, 2, 0)
	copy(list, []int{2, 2, 2})
	spread(t, x, list, 2)
	holds(t, x, 1, 2, 3)
}
