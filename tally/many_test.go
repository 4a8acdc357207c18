package tally

import (
	"math/rand"
	"runtime"
	"runtime/metrics"
	"slices"
	"sync"
	"sync/atomic"
	"testing"
	"time"

	"arbiter/api"
)

const (
	users  = 8    // goroutines that use one tally at one time
	rounds = 3000 // calls of each
)

// atOnce lets all goroutines begin together, so that their calls fall between one another, and waits for them.
func atOnce(works ...func()) {
	var all sync.WaitGroup
	begin := make(chan struct{})
	for _, work := range works {
		all.Go(func() {
			<-begin
			work()
		})
	}
	close(begin)
	all.Wait()
}

// byMany lets so many goroutines do the same.
func byMany(count int, work func(user int)) {
	var works []func()
	for user := range count {
		works = append(works, func() { work(user) })
	}
	atOnce(works...)
}

// within fails if the work does not end: a worker waits for others that never come.
func within(t *testing.T, what string, work func()) {
	t.Helper()
	done := make(chan struct{})
	go func() {
		work()
		close(done)
	}()
	select {
	case <-done:
	case <-time.After(time.Minute):
		t.Fatalf("%s does not end", what)
	}
}

func TestManyAdd(t *testing.T) { // P16.6: no sum is lost, and no two calls have the same new number
	x := newTally(t, 3)
	answers := make([][]int, users)
	byMany(users, func(user int) {
		for range rounds {
			n, _ := x.Add(1, 1)
			answers[user] = append(answers[user], n)
			x.Add(2, user-10)
			x.Add(0, 5)
			x.Add(0, -5)
		}
	})
	sum := 0
	for user := range users {
		sum += rounds * (user - 10)
	}
	holds(t, x, 0, users*rounds, sum)
	all := slices.Concat(answers...)
	slices.Sort(all)
	for place, n := range all {
		if n != place+1 {
			t.Fatalf("the new number %d has been answered twice, or not at all", place+1)
		}
	}
}

func TestManyTake(t *testing.T) { // P16.6 with P16.3: each sum is in just one answer of Take, or still there
	x := newTally(t, 2)
	var got [2]atomic.Int64
	var adding atomic.Int64
	adding.Store(users)
	take := func() {
		for adding.Load() > 0 {
			for k, n := range x.Take() {
				got[k].Add(int64(n))
			}
		}
	}
	works := []func(){take, take}
	for user := range users {
		works = append(works, func() {
			for round := range rounds {
				x.Add(0, user+1)
				if round%10 == 0 {
					x.Spread([]int{1, 1, 0}, 2)
				}
			}
			adding.Add(-1)
		})
	}
	atOnce(works...)
	spreads := users * rounds / 10
	want := [2]int{rounds*users*(users+1)/2 + spreads, 2 * spreads}
	for k, n := range x.Take() {
		if sum := int(got[k].Load()) + n; sum != want[k] {
			t.Errorf("counter %d: %d has been taken in all, want %d", k, sum, want[k])
		}
	}
	holds(t, x, 0, 0)
}

func TestManyMost(t *testing.T) { // P16.6 with P16.4
	x := newTally(t, 2)
	byMany(users, func(user int) {
		r := rand.New(rand.NewSource(int64(user)))
		seen := 0
		for round := range rounds {
			n := 1 + round*users + (user+round)%users
			at, e := x.Most(0, n)
			if e != api.OK || at < n || at < seen || at > rounds*users {
				t.Errorf("Most(0, %d) = %d, %d behind %d", n, at, e, seen)
				return
			}
			seen = at
			x.Most(1, r.Intn(rounds)-2*rounds)
		}
		x.Most(1, user-users)
	})
	holds(t, x, users*rounds, 0)
	x.Take()
	x.Add(1, -9)
	byMany(users, func(user int) { x.Most(1, user-users) })
	holds(t, x, 0, -1)
}

func TestMostLosesNoSum(t *testing.T) { // P16.6: while a counter is only added to and set higher it never falls, so that no two Adds have the same new number
	x := newTally(t, 1)
	answers := make([][]int, users/2)
	var works []func()
	for user := range users / 2 {
		works = append(works, func() {
			for range 5 * rounds {
				n, _ := x.Add(0, 1)
				answers[user] = append(answers[user], n)
			}
		}, func() {
			for round := range 5 * rounds {
				now, _ := x.Read(0)
				n := now + round%16 // a little ahead of the Adds, so that some of them fall between
				if at, _ := x.Most(0, n); at < n {
					t.Errorf("Most(0, %d) = %d", n, at)
					return
				}
			}
		})
	}
	atOnce(works...)
	all := slices.Concat(answers...)
	slices.Sort(all)
	if different := len(slices.Compact(all)); different != users/2*5*rounds {
		t.Errorf("%d Adds had %d new numbers", users/2*5*rounds, different)
	}
}

func TestManySpread(t *testing.T) { // P16.6 with P16.5
	x := newTally(t, 64)
	want := make([]int, 64)
	var list []int
	for place := range 500 {
		k := place * place % 64
		list = append(list, k)
		want[k] += users * 40
	}
	byMany(users, func(user int) {
		for round := range 40 {
			if e := x.Spread(list, 1+(user+round)%16); e != api.OK {
				t.Errorf("Spread = %d", e)
			}
			x.Spread([]int{0, 64}, 16) // which raises nothing
		}
	})
	holds(t, x, want...)
}

func TestManyOfAllKinds(t *testing.T) { // P16.6: counter 0 is raised by all, 1 is set higher alone, 2 stands still, and all are taken meanwhile
	x := newTally(t, 3)
	var sum, most, odd atomic.Int64
	gather := func() {
		all := x.Take()
		sum.Add(int64(all[0]))
		most.Store(max(most.Load(), int64(all[1])))
		odd.Add(int64(all[2]))
	}
	works := []func(){func() {
		for range 500 {
			gather()
			runtime.Gosched()
		}
	}}
	for user := range users {
		works = append(works, func() {
			for round := range 300 {
				x.Add(0, 1)
				x.Most(1, user*300+round)
				x.Spread([]int{0, 0, 0, 0}, 3)
				x.Spread([]int{0, 2, 3}, 3) // refused, as are the calls below
				x.Add(3, 1)
				x.Most(-1, 7)
				x.Most(2, -round)
				if all := x.All(); len(all) != 3 || all[0] < 0 || all[0] > users*300*5 || all[1] < 0 || all[1] >= users*300 || all[2] != 0 {
					t.Errorf("All() = %v", all)
					return
				}
				if n, e := x.Read(2); n != 0 || e != api.OK || x.Len() != 3 {
					t.Errorf("Read(2) = %d, %d of %d", n, e, x.Len())
					return
				}
			}
		})
	}
	atOnce(works...)
	gather()
	if sum.Load() != users*300*5 || most.Load() != users*300-1 || odd.Load() != 0 {
		t.Errorf("taken in all: the sum %d, the most %d, and %d of the counter that stands still", sum.Load(), most.Load(), odd.Load())
	}
	holds(t, x, 0, 0, 0)
}

func TestSpreadIsDoneWhenItAnswers(t *testing.T) { // P16.5
	x := newTally(t, 2)
	list := slices.Repeat([]int{0, 1}, 50)
	for round := range 2000 {
		spread(t, x, list, 16)
		if n, m := x.counters[0].read(), x.counters[1].read(); n != 50*(round+1) || m != n {
			t.Fatalf("behind Spread number %d: %d and %d", round+1, n, m)
		}
	}
}

// startedBy tells how many goroutines a piece of work starts. Others may be started meanwhile, so the least of several counts is taken.
func startedBy(work func()) int {
	created := []metrics.Sample{{Name: "/sched/goroutines-created:goroutines"}}
	least := -1
	for range 20 {
		metrics.Read(created)
		before := created[0].Value.Uint64()
		work()
		metrics.Read(created)
		started := int(created[0].Value.Uint64() - before)
		if least < 0 || started < least {
			least = started
		}
	}
	return least
}

func TestSpreadHasSoManyWorkers(t *testing.T) { // P16.5
	x := newTally(t, 2)
	for workers := 1; workers <= 16; workers++ {
		for _, list := range [][]int{nil, {0}, {0, 1, 0, 0}, repeated(1, 4096)} {
			if got := startedBy(func() { x.Spread(list, workers) }); got != workers {
				t.Errorf("Spread(%d numbers, %d): %d goroutines", len(list), workers, got)
			}
		}
	}
	for _, workers := range []int{0, 17} {
		if got := startedBy(func() { x.Spread([]int{0}, workers) }); got != 0 {
			t.Errorf("Spread of %d workers, which is refused: %d goroutines", workers, got)
		}
	}
}

func TestWorkersWorkAtOneTime(t *testing.T) { // P16.5: each waits till all have come, which none does if they come one behind the other
	for workers := 1; workers <= 16; workers++ {
		within(t, "together", func() {
			var come sync.WaitGroup
			come.Add(workers)
			numbers := make([]int, workers)
			together(workers, func(worker int) {
				numbers[worker]++
				come.Done()
				come.Wait()
			})
			if !slices.Equal(numbers, repeated(1, workers)) {
				t.Errorf("%d workers had the numbers %v", workers, numbers)
			}
		})
	}
}

func TestNoWorkerStays(t *testing.T) { // P16.5: a goroutine that has done its work may take a moment to be gone
	before := runtime.NumGoroutine()
	x := newTally(t, 1)
	for range 100 {
		spread(t, x, repeated(0, 50), 16)
		spreadRefused(t, x, []int{0, 1}, 16, api.ErrRange)
	}
	for range 1000 {
		if runtime.NumGoroutine() <= before {
			return
		}
		time.Sleep(time.Millisecond)
	}
	t.Errorf("%d goroutines are left of %d", runtime.NumGoroutine(), before)
}

func TestManyOnNil(t *testing.T) { // P16.6
	var x *Tally
	byMany(users, func(user int) {
		for range 100 {
			_, e := x.Add(user, 1)
			if x.Len() != 0 || len(x.All()) != 0 || len(x.Take()) != 0 || e != api.ErrArg || x.Spread(nil, 1) != api.ErrArg {
				t.Errorf("a nil Tally has answered something")
				return
			}
		}
	})
}
