package tally

import (
	"math"
	"math/rand"
	"slices"
	"testing"

	"arbiter/api"
)

// told is a tally a second time: a bare list of numbers, of which the chapter's words are said anew.
type told struct{ numbers []int }

func (w *told) isNone(k int) bool {
	return k < 0 || k >= len(w.numbers)
}

func (w *told) add(k, by int) (int, api.Errno) {
	if w.isNone(k) {
		return 0, api.ErrRange
	}
	w.numbers[k] += by
	return w.numbers[k], api.OK
}

func (w *told) most(k, n int) (int, api.Errno) {
	if w.isNone(k) {
		return 0, api.ErrRange
	}
	w.numbers[k] = max(w.numbers[k], n)
	return w.numbers[k], api.OK
}

func (w *told) take() []int {
	out := w.numbers
	w.numbers = make([]int, len(out))
	return out
}

func (w *told) spread(list []int, workers int) api.Errno {
	switch {
	case workers < 1 || workers > 16:
		return api.ErrArg
	case len(list) > 4096:
		return api.ErrLarge
	case slices.ContainsFunc(list, w.isNone):
		return api.ErrRange
	}
	for _, k := range list {
		w.add(k, 1)
	}
	return api.OK
}

func pick[T any](r *rand.Rand, from ...T) T {
	return from[r.Intn(len(from))]
}

func randomNumber(r *rand.Rand) int {
	return pick(r, r.Intn(20)-10, int(r.Uint64()), math.MaxInt-r.Intn(3), math.MinInt+r.Intn(3), 1<<r.Intn(63), -1<<r.Intn(64))
}

// randomList has a number that is none in some lists, and is too long once in a while.
func randomList(r *rand.Rand, n int) []int {
	length := pick(r, 0, 1, r.Intn(20), r.Intn(20), r.Intn(200), 4096, 4097)
	var out []int
	for range length {
		out = append(out, r.Intn(n))
	}
	if length > 0 && r.Intn(4) == 0 {
		out[r.Intn(length)] = pick(r, -1, n, randomNumber(r))
	}
	return out
}

// step asks the same of both, and holds the answers against each other.
func step(t *testing.T, r *rand.Rand, x *Tally, second *told) {
	t.Helper()
	n := len(second.numbers)
	k, number := pick(r, r.Intn(n), r.Intn(n), r.Intn(n), -1, n, randomNumber(r)), randomNumber(r)
	switch r.Intn(5) {
	case 0, 1:
		got, e := x.Add(k, number)
		if want, wantErr := second.add(k, number); got != want || e != wantErr {
			t.Fatalf("Add(%d, %d) = %d, %d, want %d, %d", k, number, got, e, want, wantErr)
		}
	case 2:
		got, e := x.Most(k, number)
		if want, wantErr := second.most(k, number); got != want || e != wantErr {
			t.Fatalf("Most(%d, %d) = %d, %d, want %d, %d", k, number, got, e, want, wantErr)
		}
	case 3:
		list, workers := randomList(r, n), pick(r, 1, 2, 16, r.Intn(20)-1)
		if e, want := x.Spread(list, workers), second.spread(list, workers); e != want {
			t.Fatalf("Spread(%d numbers, %d) = %d, want %d", len(list), workers, e, want)
		}
	case 4:
		if r.Intn(5) == 0 {
			taken(t, x, second.take()...)
		}
	}
	if x.Len() != n {
		t.Fatalf("Len() = %d, want %d", x.Len(), n)
	}
	holds(t, x, second.numbers...)
}

func TestRandomSteps(t *testing.T) { // P16.1 to P16.5
	for seed := range int64(60) {
		r := rand.New(rand.NewSource(seed))
		n := pick(r, 1, 2, 3, r.Intn(64)+1, 64)
		x, second := newTally(t, n), &told{make([]int, n)}
		for range 100 {
			step(t, r, x, second)
		}
		if t.Failed() {
			t.Fatalf("seed %d", seed)
		}
	}
}
