package engine

import (
	"fmt"
	"math/rand"
	"slices"
	"strings"
	"testing"

	"arbiter/api"
)

// task is a run that is to be made.
type task struct {
	main api.Ref
	args []int
	fuel int
}

// TestAllCapacities makes the same runs, while classes arrive, with each capacity on one engine and on a new one.
func TestAllCapacities(t *testing.T) { // P22.3, P0.2
	for seed := int64(900); seed < 904; seed++ {
		r := rand.New(rand.NewSource(seed))
		p := newPlan(r, 12)
		classes := p.classes()
		l := linkerOf(t, classes[:6]...)
		var kept []*Engine
		for capacity := range api.MaxCache + 1 {
			kept = append(kept, newEngine(t, l, capacity))
		}
		x := newTold(l.World())
		for turn := range 24 {
			if turn%3 == 0 && l.World().Len()-3 < len(classes) {
				define(t, l.World(), classes[l.World().Len()-3])
			}
			main, args := p.main(classes)
			one := task{main, args, pick(r, r.Intn(50), 400, 2000)}
			before := x.counts
			want, wantErr := x.run(one.main, one.args, one.fuel)
			for capacity, g := range kept {
				isSame(t, g, one, want, wantErr, x.counts)
				fresh := newEngine(t, l, capacity)
				var more [4]int
				for at := range more {
					more[at] = x.counts[at] - before[at]
				}
				isSame(t, fresh, one, want, wantErr, more)
			}
			if t.Failed() {
				t.Fatalf("seed %d, turn %d", seed, turn)
			}
		}
	}
}

func isSame(t *testing.T, g *Engine, one task, want api.Result, wantErr api.Errno, counts [4]int) {
	t.Helper()
	got, e := g.Run(one.main, one.args, one.fuel)
	if got != want || e != wantErr {
		t.Errorf("capacity %d: Run(%v) = %s, %d, want %s, %d", g.capacity, one, said(got), e, said(want), wantErr)
	}
	if all := g.Counts(); !slices.Equal(all, counts[:]) {
		t.Errorf("capacity %d: behind Run(%v) Counts() = %v, want %v", g.capacity, one, all, counts)
	}
}

// TestOneSiteMeetsMany: as classes arrive, with caches that hold none, some or all of them.
func TestOneSiteMeetsMany(t *testing.T) { // P22.3
	const count = 20
	w := worldOf(t, class("A", "Object", method(t, "m()I", normal, "iconst 0, ireturn"), method(t, "call(LA;)I", static, "aload 0, invokevirtual A.m()I, ireturn")))
	l := newLinker(t, w)
	var engines []subject
	for _, capacity := range []int{0, 1, 2, 3, 4, 7, 19, 20, 21, 63, 64} {
		engines = append(engines, newSubject(t, l, capacity))
	}
	for n := range count {
		super := "A"
		if n > 2 && n%3 == 0 {
			super = fmt.Sprint("C", n-2)
		}
		define(t, w, class(fmt.Sprint("C", n), super, method(t, "m()I", normal, fmt.Sprintf("iconst %d, ireturn", n))))
		var lines []string
		want := ""
		for round := range 3 {
			for at := range n + 1 {
				at = at * (round + 1) % (n + 1)
				lines = append(lines, fmt.Sprintf("new C%d, invokestatic A.call(LA;)I, print", at))
				want += fmt.Sprint(at, " ")
			}
		}
		name := fmt.Sprint("Main", n)
		define(t, w, class(name, "Object", method(t, "f()V", static, strings.Join(lines, ", ")+", return")))
		for _, s := range engines {
			s.says(t, name+".f()V", nil, plenty, fmt.Sprint(want, "returned spent ", len(lines)*8+1))
		}
	}
}

func TestClassesArriveBetweenRuns(t *testing.T) { // P22.3, P0.3: by the same call sites
	for _, capacity := range capacities {
		l := linkerOf(t, class("Main", "Object",
			method(t, "f()I", static, "new B, invokevirtual A.m()I, ireturn"), method(t, "null()V", static, "null, invokevirtual A.m()I, return"), method(t, "is()I", static, "new Object, instanceof A, ireturn"),
			method(t, "list()V", static, "iconst 1, newarray LA;, printclass, return"), method(t, "late()V", static, "new Main, invokestatic Main.of(LA;)V, return"), method(t, "of(LA;)V", static, "return"), method(t, "back()LA;", static, "new B, areturn")))
		s := newSubject(t, l, capacity)
		w := l.World()
		s.says(t, "Main.f()I", nil, plenty, "NoClassDef spent 1")
		s.says(t, "Main.null()V", nil, plenty, "NoClassDef spent 2")
		s.says(t, "Main.is()I", nil, plenty, "NoClassDef spent 2")
		s.says(t, "Main.list()V", nil, plenty, "NoClassDef spent 2")
		s.says(t, "Main.late()V", nil, plenty, "Malformed spent 2")
		s.says(t, "A.f()I", nil, plenty, "NoClassDef spent 0")
		define(t, w, class("A", "Object", method(t, "m()I", normal, "iconst 1, ireturn"), method(t, "f()I", static, "iconst 9, ireturn")))
		s.says(t, "Main.f()I", nil, plenty, "NoClassDef spent 1")
		s.says(t, "Main.null()V", nil, plenty, "NullPointer spent 2")
		s.says(t, "Main.is()I", nil, plenty, "0 spent 3")
		s.says(t, "Main.list()V", nil, plenty, "[LA; returned spent 4")
		s.says(t, "Main.late()V", nil, plenty, "Malformed spent 2")
		s.says(t, "A.f()I", nil, plenty, "9 spent 2")
		define(t, w, class("B", "A"))
		s.says(t, "Main.f()I", nil, plenty, "1 spent 5")
		s.says(t, "Main.back()LA;", nil, plenty, "ref 1 spent 2")
		define(t, w, class("C", "B", method(t, "m()I", normal, "iconst 3, ireturn")))
		s.says(t, "Main.f()I", nil, plenty, "1 spent 5")
		s.counted(t, 2, 0, 0, 0)
	}
}

func TestRunsLeaveNothing(t *testing.T) { // P22.3: the heap, the stack and the output of each run are new
	s := newSubject(t, linkerOf(t, class("A", "Object",
		method(t, "made()LObject;", static, "new A, pop, new A, areturn"), method(t, "print()V", static, "iconst 5, print, return"), method(t, "fails()V", static, "new A, iconst 1, print, iconst 2, iconst 3, iconst 0, idiv"),
		method(t, "self()V", static, "invokestatic A.self()V, return"), method(t, "full()V", static, "iconst 20000, newarray I, pop, return"), method(t, "local()I", static, "iload 0, iconst 5, istore 0, ireturn"))), 2)
	for range 3 {
		s.says(t, "A.made()LObject;", nil, plenty, "ref 2 spent 4")
		s.says(t, "A.print()V", nil, plenty, "5 returned spent 3")
		s.says(t, "A.fails()V", nil, plenty, "1 Arithmetic spent 7")
		s.says(t, "A.self()V", nil, plenty, "StackOverflow spent 307")
		s.says(t, "A.full()V", nil, plenty, "returned spent 4")
		s.says(t, "A.local()I", nil, plenty, "0 spent 4")
		s.says(t, "A.print()V", nil, 2, "5 FuelSpent spent 2")
	}
}

func TestEnginesStandAlone(t *testing.T) { // P22.4: what one counts another does not
	l := linkerOf(t, class("A", "Object", method(t, "f()V", static, "new A, invokevirtual A.id()I, return")))
	a, b := newSubject(t, l, 1), newSubject(t, l, 1)
	a.says(t, "A.f()V", nil, plenty, "returned spent 5")
	a.counted(t, 1, 0, 0, 0)
	b.counted(t, 0, 0, 0, 0)
	if b.Reads() != 0 {
		t.Errorf("Reads() = %d", b.Reads())
	}
}

func TestBigWorld(t *testing.T) { // P22.2, P22.3: as many classes as a world takes
	p := newPlan(rand.New(rand.NewSource(5)), api.MaxClasses-3)
	classes := p.classes()
	l := linkerOf(t, classes...)
	engines := []subject{newSubject(t, l, 0), newSubject(t, l, 2), newSubject(t, l, 64)}
	for range 400 {
		main, args := p.main(classes)
		for _, s := range engines {
			s.run(t, main, args, 400)
		}
	}
}
