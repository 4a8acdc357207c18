package link

import (
	"math/rand"
	"runtime"
	"runtime/metrics"
	"slices"
	"sync"
	"sync/atomic"
	"testing"
	"time"

	"arbiter/api"
	"arbiter/display"
	"arbiter/hier"
)

const users = 8 // goroutines that use one linker at one time

// atOnce lets all goroutines begin together, so that their calls fall between one another, and waits for them.
func atOnce(works ...func()) {
	var all sync.WaitGroup
	begin := make(chan struct{})
	for _, work := range works {
		all.Go(func() {
			<-begin
			work()
		})
	}
	close(begin)
	all.Wait()
}

// byMany lets so many goroutines do the same.
func byMany(count int, work func(user int)) {
	var works []func()
	for user := range count {
		works = append(works, func() { work(user) })
	}
	atOnce(works...)
}

// within fails if the work does not end: one waits for others that never come.
func within(t *testing.T, what string, work func()) {
	t.Helper()
	done := make(chan struct{})
	go func() {
		defer close(done)
		work()
	}()
	select {
	case <-done:
	case <-time.After(2 * time.Minute):
		t.Fatalf("%s does not end", what)
	}
}

// whole is all that a world's linker has to answer, worked out ahead by one goroutine.
type whole struct {
	world   *hier.World
	classes []api.Class
	tables  []api.Tables
}

func wholeOf(t *testing.T, classes []api.Class) *whole {
	t.Helper()
	x := &whole{world: worldOf(t, classes[3:]...), classes: classes}
	for id := range classes {
		x.tables = append(x.tables, made(x.world, id))
	}
	return x
}

// question asks one of the calls about a class that is there, and tells whether the answer is the one that is due.
func (x *whole) question(l *Linker, call, id int) bool {
	want := x.tables[id]
	switch call {
	case 0:
		got, e := l.Tables(id)
		return e == api.OK && same(got, want)
	case 1:
		got, e := l.Ask([]int{id, -1, id}, 2)
		return e == api.OK && slices.Equal(got, []int{sizeOf(want), -1, sizeOf(want)})
	case 2:
		return x.askSlots(l, id)
	case 3:
		return x.askEntries(l, id)
	}
	name, other := kind(0, x.classes[id].Name), kind(0, x.classes[id/2].Name)
	got, n, e := l.Below(name, other)
	below, reads, _ := display.TestTypes(x.world, name, other)
	return e == api.OK && got == below && n == reads
}

const questionCount = 5

func (x *whole) askSlots(l *Linker, id int) bool {
	slots := x.tables[id].Slots
	for place, s := range slots {
		if got, e := l.Slot(id, place); got != s.Method || e != api.OK {
			return false
		}
	}
	_, e := l.Slot(id, len(slots))
	return e == api.ErrRange
}

func (x *whole) askEntries(l *Linker, id int) bool {
	entries := x.tables[id].Entries
	for _, entry := range entries {
		if got, _, e := l.Entry(id, entry.Root); got != entry || e != api.OK {
			return false
		}
	}
	_, _, e := l.Entry(id, objectInit)
	return e == api.ErrNone
}

func TestManyAskForOneClass(t *testing.T) { // P17.8, P17.2: it is built once, with its chain; none answers ahead of its tables
	x := wholeOf(t, append(randomClasses(1, 3), chainOf(40)...))
	last := len(x.classes) - 1
	for round := range 60 {
		l := newLinker(t, x.world)
		within(t, "asking for one class", func() {
			byMany(users, func(user int) {
				call := (round + user) % 4
				if round%5 == 4 {
					call = 0
				}
				if !x.question(l, call, last) {
					t.Errorf("question %d about %d had another answer", call, last)
				}
				if !l.Built(last) || !l.Built(0) || l.Builds() != 41 {
					t.Errorf("behind a call: Built(%d) = %v, Builds() = %d", last, l.Built(last), l.Builds())
				}
			})
		})
		if l.Builds() != 41 || l.Built(1) || l.Built(2) {
			t.Fatalf("Builds() = %d of 41 classes of the chain", l.Builds())
		}
	}
}

func TestManyAskForAllClasses(t *testing.T) { // P17.8: each in an order of its own, by all calls
	for seed := range int64(25) {
		x := wholeOf(t, randomClasses(seed, 30))
		l := newLinker(t, x.world)
		within(t, "asking for all classes", func() {
			byMany(users, func(user int) {
				r := rand.New(rand.NewSource(seed*users + int64(user)))
				for _, id := range r.Perm(len(x.classes)) {
					if call := r.Intn(questionCount); !x.question(l, call, id) {
						t.Errorf("seed %d: question %d about %d had another answer", seed, call, id)
						return
					}
				}
				for id := range x.classes {
					x.question(l, 0, id)
				}
			})
		})
		if l.Builds() != len(x.classes) {
			t.Fatalf("seed %d: Builds() = %d of %d classes", seed, l.Builds(), len(x.classes))
		}
		for id := range x.classes {
			if !l.Built(id) {
				t.Fatalf("seed %d: %d has not been built", seed, id)
			}
		}
	}
}

func TestManyAskFromBothEnds(t *testing.T) { // P17.8: those who build up the chain meet those who build down, and wait in no circle
	x := wholeOf(t, append(randomClasses(1, 3), chainOf(60)...))
	for range 20 {
		l := newLinker(t, x.world)
		within(t, "building from both ends", func() {
			byMany(users, func(user int) {
				for at := range x.classes {
					id := at
					if user%2 == 0 {
						id = len(x.classes) - 1 - at
					}
					if !x.question(l, 0, id) {
						t.Errorf("Tables(%d) had another answer", id)
					}
				}
			})
		})
		if l.Builds() != len(x.classes) {
			t.Fatalf("Builds() = %d of %d classes", l.Builds(), len(x.classes))
		}
	}
}

func TestAskByManyWorkers(t *testing.T) { // P17.4, P17.8: the workers of several Asks at one time
	x := wholeOf(t, randomClasses(11, 40))
	for round := range 15 {
		l := newLinker(t, x.world)
		byMany(users, func(user int) {
			r := rand.New(rand.NewSource(int64(round*users + user)))
			var ids, want []int
			for range 300 {
				id := r.Intn(len(x.classes)+2) - 1
				size := -1
				if id >= 0 && id < len(x.classes) {
					size = sizeOf(x.tables[id])
				}
				ids, want = append(ids, id), append(want, size)
			}
			if got, e := l.Ask(ids, 1+(round+user)%16); !slices.Equal(got, want) || e != api.OK {
				t.Errorf("Ask(%v) = %v, %d, want %v", ids, got, e, want)
			}
		})
		if l.Builds() != len(x.classes) {
			t.Fatalf("Builds() = %d of %d classes", l.Builds(), len(x.classes))
		}
	}
}

func TestOneAskBuildsOnce(t *testing.T) { // P17.4: its own workers meet at the same classes
	x := wholeOf(t, append(randomClasses(1, 3), chainOf(30)...))
	last := len(x.classes) - 1
	for round := range 60 {
		l := newLinker(t, x.world)
		asked(t, l, 1+round%16, repeated(last, 40), repeated(sizeOf(x.tables[last]), 40)...)
		if l.Builds() != 31 {
			t.Fatalf("Builds() = %d of 31 classes of the chain", l.Builds())
		}
	}
}

// TestBuiltWhileOthersBuild: what is seen never comes ahead of what it hangs on, and never goes.
func TestBuiltWhileOthersBuild(t *testing.T) { // P17.3, P17.8
	x := wholeOf(t, append(randomClasses(1, 3), chainOf(40)...))
	for range 20 {
		l := newLinker(t, x.world)
		var building atomic.Int64
		building.Store(users)
		watch := func() {
			most := 0
			for building.Load() > 0 {
				seen := 0
				for id := range x.classes {
					if super, e := x.world.Super(id); l.Built(id) {
						seen++
						if e == api.OK && !l.Built(super) {
							t.Errorf("%d has been built ahead of its superclass", id)
						}
					}
				}
				now := l.Builds()
				if now < seen || now < most || now > len(x.classes) {
					t.Errorf("Builds() = %d behind %d, where %d have been built", now, most, seen)
				}
				most = now
				runtime.Gosched()
			}
		}
		works := []func(){watch, watch}
		for user := range users {
			works = append(works, func() {
				defer building.Add(-1)
				for id := range x.classes {
					if at := (id*7 + user) % len(x.classes); !x.question(l, user%2, at) || !l.Built(at) {
						t.Errorf("a question about %d had another answer, or left it unbuilt", at)
					}
				}
			})
		}
		atOnce(works...)
	}
}

// TestArrivalsBetweenCalls: a lock of the test's own keeps arrivals between the calls; so tables are built in worlds of all sizes.
func TestArrivalsBetweenCalls(t *testing.T) { // P17.8, P0.3
	for seed := range int64(10) {
		x := wholeOf(t, randomClasses(100+seed, 40))
		w := hier.New()
		l := newLinker(t, w)
		var turn sync.RWMutex
		var arriving atomic.Bool
		arriving.Store(true)
		works := []func(){func() {
			defer arriving.Store(false)
			for _, c := range x.classes[3:] {
				turn.Lock()
				_, e := w.Define(c)
				turn.Unlock()
				if e != api.OK {
					t.Errorf("Define(%s): %d", c.Name, e)
				}
				time.Sleep(200 * time.Microsecond)
			}
		}}
		for user := range users {
			works = append(works, func() {
				r := rand.New(rand.NewSource(seed*users + int64(user)))
				for arriving.Load() {
					turn.RLock()
					n := w.Len()
					id, call := max(r.Intn(n), r.Intn(n)), r.Intn(questionCount)
					right := x.question(l, call, id)
					_, e := l.Tables(n)
					turn.RUnlock()
					if !right || e != api.ErrRange {
						t.Errorf("seed %d: question %d about %d of %d had another answer, or that about none: %d", seed, call, id, n, e)
						return
					}
				}
			})
		}
		atOnce(works...)
		for id := range x.classes {
			tablesAre(t, l, id, x.tables[id])
		}
		if l.Builds() != len(x.classes) {
			t.Fatalf("seed %d: Builds() = %d of %d classes", seed, l.Builds(), len(x.classes))
		}
	}
}

func TestManyRefusedBuildNothing(t *testing.T) { // P17.8, R5
	l := sample(t)
	byMany(users, func(user int) {
		for range 50 {
			tablesRefused(t, l, api.ErrRange, sampleSize)
			slotRefused(t, l, api.ErrRange, classB, 5)
			slotRefused(t, l, api.ErrRange, classA, -1)
			entryRefused(t, l, api.ErrNone, classB, methodBn)
			askRefused(t, l, api.ErrArg, []int{classB}, 17)
			belowRefused(t, l, api.NoClassDef, kind(0, "A"), kind(0, "C"))
		}
	})
	built(t, l)
}

// startedBy tells how many goroutines a piece of work starts. Others may be started meanwhile, so the least of several counts is taken.
func startedBy(work func()) int {
	created := []metrics.Sample{{Name: "/sched/goroutines-created:goroutines"}}
	least := -1
	for range 20 {
		metrics.Read(created)
		before := created[0].Value.Uint64()
		work()
		metrics.Read(created)
		started := int(created[0].Value.Uint64() - before)
		if least < 0 || started < least {
			least = started
		}
	}
	return least
}

func TestAskHasSoManyWorkers(t *testing.T) { // P17.4
	l := sample(t)
	for workers := 1; workers <= 16; workers++ {
		for _, ids := range [][]int{nil, {0}, {6, 1, -1, 0}, repeated(5, 4096)} {
			if got := startedBy(func() { l.Ask(ids, workers) }); got != workers {
				t.Errorf("Ask(%d numbers, %d): %d goroutines", len(ids), workers, got)
			}
		}
	}
	for _, workers := range []int{0, 17} {
		if got := startedBy(func() { l.Ask([]int{0}, workers) }); got != 0 {
			t.Errorf("Ask of %d workers, which is refused: %d goroutines", workers, got)
		}
	}
}

func TestWorkersWorkAtOneTime(t *testing.T) { // P17.4: each waits till all have come, which none does if they come one behind the other
	for workers := 1; workers <= 16; workers++ {
		within(t, "together", func() {
			var come sync.WaitGroup
			come.Add(workers)
			numbers := make([]int, workers)
			together(workers, func(worker int) {
				numbers[worker]++
				come.Done()
				come.Wait()
			})
			if !slices.Equal(numbers, repeated(1, workers)) {
				t.Errorf("%d workers had the numbers %v", workers, numbers)
			}
		})
	}
}

func TestNoWorkerStays(t *testing.T) { // P17.4: a goroutine that has done its work may take a moment to be gone
	before := runtime.NumGoroutine()
	for range 50 {
		l := sample(t)
		asked(t, l, 16, repeated(classB, 50), repeated(15, 50)...)
		askRefused(t, l, api.ErrArg, []int{0}, 17)
	}
	for range 1000 {
		if runtime.NumGoroutine() <= before {
			return
		}
		time.Sleep(time.Millisecond)
	}
	t.Errorf("%d goroutines are left of %d", runtime.NumGoroutine(), before)
}

func TestManyOnNil(t *testing.T) { // P17.8, R6
	var l *Linker
	byMany(users, func(user int) {
		for range 100 {
			_, e := l.Tables(user)
			_, askErr := l.Ask(nil, 1)
			if e != api.ErrArg || askErr != api.ErrArg || l.Built(user) || l.Builds() != 0 || l.World() != nil {
				t.Errorf("a nil Linker has answered something")
				return
			}
		}
	})
}
