package site

import (
	"fmt"
	"math/rand"
	"runtime"
	"runtime/metrics"
	"slices"
	"sync"
	"sync/atomic"
	"testing"
	"time"

	"arbiter/api"
	"arbiter/choose"
	"arbiter/hier"
)

const users = 8 // goroutines that use one site at one time

// meeting is where goroutines wait for one another. They spin there: a call of a site is far shorter than it takes to wake a goroutine.
type meeting struct{ come atomic.Int64 }

// wait goes on when so many have come.
func (m *meeting) wait(count int) {
	m.come.Add(1)
	for turn := 1; m.come.Load() < int64(count); turn++ {
		if turn%1000 == 0 { // the others may need this one's processor
			runtime.Gosched()
		}
	}
}

// atOnce lets all goroutines begin together, so that their calls fall between one another, and waits for them.
func atOnce(works ...func()) {
	var all sync.WaitGroup
	var begin meeting
	for _, work := range works {
		all.Go(func() {
			begin.wait(len(works))
			work()
		})
	}
	all.Wait()
}

// byMany lets so many goroutines do the same.
func byMany(count int, work func(user int)) {
	var works []func()
	for user := range count {
		works = append(works, func() { work(user) })
	}
	atOnce(works...)
}

// within fails if the work does not end: one waits for others that never come.
func within(t *testing.T, what string, work func()) {
	t.Helper()
	done := make(chan struct{})
	go func() {
		defer close(done)
		work()
	}()
	select {
	case <-done:
	case <-time.After(2 * time.Minute):
		t.Fatalf("%s does not end", what)
	}
}

// known is what a site has to answer, worked out ahead by one goroutine.
type known struct {
	list    []api.Type
	methods []api.MethodID
	errs    []api.Errno
	link    api.Errno
}

func knownOf(s subject, list []api.Type) known {
	x := known{list: list, link: s.second.link()}
	x.methods, x.errs, _ = s.second.calls(list, 1)
	s.second.resolved = false
	return x
}

// question asks one of the calls, and tells whether the answer is the one that is due.
func (x known) question(s *Site, r *rand.Rand) bool {
	switch n := r.Intn(40); {
	case n == 0:
		methods, errs, e := s.Calls(x.list, 1+r.Intn(16))
		return e == api.OK && slices.Equal(methods, x.methods) && slices.Equal(errs, x.errs)
	case n == 1:
		_, _, e := s.Calls(x.list, 17*r.Intn(2))
		return e == api.ErrArg
	case n < 4:
		return s.Link() == x.link
	}
	at := r.Intn(len(x.list))
	m, e := s.Call(x.list[at])
	return m == x.methods[at] && e == x.errs[at]
}

func TestManyUseOneSite(t *testing.T) { // P19.7: all calls, from the first on, of sites of all kinds
	l := city(t)
	cases := cityCases()
	for round := range 120 {
		c := cases[round*7%len(cases)]
		s := newSubject(t, l, number(t, l, []string{"A", "q/X", "N"}[round%3]), c.kind, ref(c.text), capacities[round%len(capacities)])
		x := knownOf(s, append(receivers(l.World()), typ(c.recv), typ("A"), typ("N")))
		within(t, "using one site", func() {
			byMany(users, func(user int) {
				r := rand.New(rand.NewSource(int64(round*users + user)))
				reads, wasResolved := 0, false
				for range 200 {
					if !x.question(s.Site, r) {
						t.Errorf("%s: another answer", s.about())
						return
					}
					now, isResolved := s.Reads(), s.Resolved()
					if now < reads || wasResolved && !isResolved {
						t.Errorf("%s: Reads() = %d behind %d, Resolved() = %v behind %v", s.about(), now, reads, isResolved, wasResolved)
					}
					reads, wasResolved = now, isResolved
				}
			})
		})
	}
}

func TestManyResolve(t *testing.T) { // P19.7: whoever comes first resolves, and the others go by the same
	l := city(t)
	for round := range 300 {
		s := site(t, l, "q/X", api.Virtual, "A.m()V", round%3)
		targets := make([]*target, users)
		byMany(users, func(user int) {
			switch (round + user) % 3 {
			case 0:
				s.Link()
			case 1:
				s.Call(typ("B"))
			case 2:
				s.Calls([]api.Type{typ("A"), typ("B")}, 2)
			}
			if !s.Resolved() {
				t.Errorf("behind a call that resolves Resolved() is false")
			}
			targets[user], _ = s.resolved()
		})
		for _, one := range targets {
			if one == nil || one != targets[0] {
				t.Fatalf("round %d: the reference was resolved more than once", round)
			}
		}
	}
}

func TestManyCannotResolve(t *testing.T) { // P19.7, P19.3: each asks anew, till the class has arrived
	for range 20 {
		l := city(t)
		s := site(t, l, "q/X", api.Virtual, "Late.m()V", 1)
		ask := func(want api.Errno) {
			byMany(users, func(user int) {
				for range 50 {
					if _, e := s.Call(typ("A")); e != want {
						t.Errorf("Call(A): %d, want %d", e, want)
					}
					if s.Resolved() != (want != api.NoClassDef) {
						t.Errorf("Resolved() = %v", s.Resolved())
					}
				}
			})
		}
		within(t, "resolving what is not there", func() { ask(api.NoClassDef) })
		define(t, l.World(), class("Late", "A"))
		within(t, "resolving what has arrived", func() { ask(api.Incompatible) })
	}
}

// readsAlone is how many words a Call of each type reads, where there is no cache.
func readsAlone(s subject, list []api.Type) []int {
	s.Link()
	var out []int
	for _, recv := range list {
		before := s.Reads()
		s.Call(recv)
		out = append(out, s.Reads()-before)
	}
	return out
}

func TestNoReadIsLost(t *testing.T) { // P19.7, P19.4: without a cache each call reads as many words as it does alone
	l := city(t)
	list := receivers(l.World())
	for _, c := range []struct {
		kind int
		text string
	}{{api.Virtual, "A.m()V"}, {api.Iface, "I:m()V"}, {api.Virtual, "N.d()V"}, {api.Special, "I:d()V"}} {
		alone := readsAlone(site(t, l, "q/X", c.kind, c.text, 0), list)
		s := site(t, l, "q/X", c.kind, c.text, 0)
		var want atomic.Int64
		byMany(users, func(user int) {
			r := rand.New(rand.NewSource(int64(user)))
			for range 1500 {
				at := r.Intn(len(list))
				want.Add(int64(alone[at]))
				if r.Intn(10) > 0 {
					s.Call(list[at])
				} else {
					s.Calls(list[at:at+1], 1+r.Intn(4))
				}
			}
		})
		if got := s.Reads(); got != int(want.Load()) || got == 0 {
			t.Errorf("%s: %d words were read, and %d are told", s.about(), want.Load(), got)
		}
	}
}

func TestNoReadIsLostBesideACache(t *testing.T) { // P19.7, P19.4, P19.6: a hit reads the cache alone, a miss a place of the chain and a slot beside it
	l := city(t)
	list := []string{"A", "B", "C", "O", "N", "W2"}
	for _, capacity := range capacities[1:] {
		s := site(t, l, "q/X", api.Virtual, "A.m()V", capacity)
		byMany(users, func(user int) {
			r := rand.New(rand.NewSource(int64(user)))
			for range 2000 {
				s.Call(typ(pick(r, list...)))
			}
		})
		hits, misses := s.Hits()
		want := wordsOf(capacity)*(hits+misses) + 2*misses
		if got := s.Reads(); hits+misses != users*2000 || got != want {
			t.Errorf("capacity %d: Hits() = %d, %d, Reads() = %d, want %d", capacity, hits, misses, got, want)
		}
	}
}

// TestArrivalsBetweenCalls: a lock of the test's own keeps arrivals between the calls.
func TestArrivalsBetweenCalls(t *testing.T) { // P19.7, P0.3
	for seed := range int64(12) {
		classes := randomClasses(t, 100+seed, 40)
		w := hier.New()
		l := newLinker(t, w)
		r := rand.New(rand.NewSource(seed))
		var sites []subject
		for len(sites) < 30 {
			from := randomRef(r, classes)
			sites = append(sites, newSubject(t, l, 0, randomKind(r, from), from, pick(r, capacities...)))
		}
		var turn sync.RWMutex
		var arriving atomic.Bool
		arriving.Store(true)
		works := []func(){func() {
			defer arriving.Store(false)
			for _, c := range classes[3:] {
				turn.Lock()
				_, e := w.Define(c)
				turn.Unlock()
				if e != api.OK {
					t.Errorf("Define(%s): %d", c.Name, e)
				}
				time.Sleep(200 * time.Microsecond)
			}
		}}
		for user := range users {
			works = append(works, func() {
				r := rand.New(rand.NewSource(seed*users + int64(user)))
				for arriving.Load() {
					turn.RLock()
					s := pick(r, sites...)
					right := s.isRight(r)
					turn.RUnlock()
					if !right {
						t.Errorf("seed %d: %s: another answer", seed, s.about())
						return
					}
				}
			})
		}
		within(t, "calls between arrivals", func() { atOnce(works...) })
		for _, s := range sites {
			s.link(t) // from here on the second telling knows whether it is resolved
			for range 20 {
				s.call(t, s.randomReceiver(r))
			}
		}
	}
}

// isRight asks one question and turns nothing of the second telling, so that several goroutines may do it.
func (s subject) isRight(r *rand.Rand) bool {
	alone := &told{world: s.second.world, d: s.second.d, kind: s.second.kind, ref: s.second.ref}
	recv := s.randomReceiver(r)
	list := []api.Type{recv, s.randomReceiver(r), recv}
	if r.Intn(8) == 0 {
		return s.Link() == alone.link() && (!alone.resolved || s.Resolved())
	}
	if r.Intn(8) == 0 {
		methods, errs, e := s.Calls(list, 1+r.Intn(4))
		want, wantErrs, _ := alone.calls(list, 1)
		return e == api.OK && slices.Equal(methods, want) && slices.Equal(errs, wantErrs)
	}
	m, e := s.Call(recv)
	want, wantErr := alone.call(recv)
	return m == want && e == wantErr && (!alone.resolved || s.Resolved())
}

// TestCallsTellNothingOfTheirOrder: which of the workers comes first is seen in no answer.
func TestCallsTellNothingOfTheirOrder(t *testing.T) { // P19.5, R8
	l := city(t)
	list := slices.Repeat(receivers(l.World()), 20)
	for _, capacity := range capacities {
		var first []int
		for round := range 60 {
			s := site(t, l, "q/X", api.Virtual, "A.m()V", capacity)
			s.Call(typ("B"))
			s.Calls(list, 1+round%16)
			s.Call(typ("A"))
			s.Call(typ("B"))
			hits, misses := s.Hits()
			now := []int{s.Reads(), hits, misses}
			if round == 0 {
				first = now
			}
			if !slices.Equal(now, first) {
				t.Fatalf("capacity %d: reads, hits and misses are %v, and were %v", capacity, now, first)
			}
		}
	}
}

// startedBy tells how many goroutines a piece of work starts. Others may be started meanwhile, so the least of several counts is taken.
func startedBy(work func()) int {
	created := []metrics.Sample{{Name: "/sched/goroutines-created:goroutines"}}
	least := -1
	for range 20 {
		metrics.Read(created)
		before := created[0].Value.Uint64()
		work()
		metrics.Read(created)
		started := int(created[0].Value.Uint64() - before)
		if least < 0 || started < least {
			least = started
		}
	}
	return least
}

func TestCallsHaveSoManyWorkers(t *testing.T) { // P19.5
	l := city(t)
	s := site(t, l, "q/X", api.Virtual, "A.m()V", 1)
	for workers := 1; workers <= 16; workers++ {
		for _, n := range []int{0, 1, 4, 300} {
			list := slices.Repeat([]api.Type{typ("A")}, n)
			if got := startedBy(func() { s.Calls(list, workers) }); got != workers {
				t.Errorf("Calls(%d types, %d): %d goroutines", n, workers, got)
			}
		}
	}
	for _, workers := range []int{0, 17} {
		if got := startedBy(func() { s.Calls([]api.Type{typ("A")}, workers) }); got != 0 {
			t.Errorf("Calls of %d workers, which is refused: %d goroutines", workers, got)
		}
	}
}

func TestWorkersWorkAtOneTime(t *testing.T) { // P19.5: each waits till all have come, which none does if they come one behind the other
	for workers := 1; workers <= 16; workers++ {
		within(t, "together", func() {
			var come sync.WaitGroup
			come.Add(workers)
			numbers := make([]int, workers)
			together(workers, func(worker int) {
				numbers[worker]++
				come.Done()
				come.Wait()
			})
			if slices.ContainsFunc(numbers, func(n int) bool { return n != 1 }) {
				t.Errorf("%d workers had the numbers %v", workers, numbers)
			}
		})
	}
}

func TestNoWorkerStays(t *testing.T) { // P19.5: a goroutine that has done its work may take a moment to be gone
	before := runtime.NumGoroutine()
	l := city(t)
	for range 50 {
		s := site(t, l, "q/X", api.Virtual, "A.m()V", 1)
		s.calls(t, receivers(l.World()), 16)
		s.calls(t, nil, 17)
	}
	for range 1000 {
		if runtime.NumGoroutine() <= before {
			return
		}
		time.Sleep(time.Millisecond)
	}
	t.Errorf("%d goroutines are left of %d", runtime.NumGoroutine(), before)
}

func TestManySitesOfOneLinker(t *testing.T) { // P19.7: each goroutine has a site of its own, and they meet in the tables
	for round := range 20 {
		l := deepWorld(t, 12, 8)
		byMany(users, func(user int) {
			kind, from := api.Virtual, ref(fmt.Sprint("D", user, ".m()V"))
			if user%2 == 0 {
				kind, from = api.Iface, ref(fmt.Sprint("I", user, ":i()V"))
			}
			s, _ := New(l, 0, kind, from, capacities[(round+user)%len(capacities)])
			for _, recv := range receivers(l.World()) {
				m, e := s.Call(recv)
				if want, wantErr := choose.Call(l.World(), 0, kind, from, recv); m != want || e != wantErr {
					t.Errorf("Call(%s) = %v, %d, want %v, %d", show(recv), m, e, want, wantErr)
				}
			}
		})
	}
}

func TestManyOnNil(t *testing.T) { // P19.7, R6
	var s *Site
	byMany(users, func(user int) {
		for range 100 {
			_, e := s.Call(typ("Object"))
			_, _, callsErr := s.Calls(nil, 1)
			hits, misses := s.Hits()
			if e != api.ErrArg || callsErr != api.ErrArg || s.Link() != api.ErrArg || s.Resolved() || s.Reads()+hits+misses != 0 {
				t.Errorf("a nil Site has answered something")
				return
			}
		}
	})
}
