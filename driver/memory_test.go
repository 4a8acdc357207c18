package driver

import (
	"fmt"
	"math/rand"
	"slices"
	"strings"
	"sync"
	"testing"
	"unsafe"

	"arbiter/api"
	"arbiter/hier"
	"arbiter/shapes"
)

// worldFacts are the classes of a world, as they arrived.
func worldFacts(w *hier.World) []string {
	var out []string
	for id := range w.Len() {
		c, _ := w.Class(id)
		out = append(out, fmt.Sprintf("%+v", c))
	}
	return out
}

// TestPiecesAreNotKept: the memory in which each piece came is written over behind the call.
func TestPiecesAreNotKept(t *testing.T) { // R4
	town, _ := townScript()
	script := town + mainThatRuns() + "run Main.least()I fuel 9\nchain C\nvtable B\nrun Main.one(I)I 7 fuel 9\ncache 3\nrun No.f()V fuel 9\nchains\n" + example("Z") + "methods Z"
	want := Run(script)
	for _, size := range []int{1, 2, 3, 7, 50, 1000, len(script)} {
		s, got := Open(), ""
		var answers, copies []string
		memory := make([]byte, size)
		for rest := script; len(rest) > 0; {
			n := copy(memory, rest)
			rest = rest[n:]
			answer := s.Feed(unsafe.String(&memory[0], n))
			answers, copies = append(answers, answer), append(copies, strings.Clone(answer))
			for at := range memory {
				memory[at] = '\n'
			}
		}
		got = strings.Join(answers, "") + s.End()
		other := Open()
		other.Feed(script + "\n")
		if got != want || !slices.Equal(answers, copies) || !slices.Equal(worldFacts(s.World()), worldFacts(other.World())) {
			t.Errorf("pieces of %d bytes answered %s, wanted %s", size, show(got), show(want))
		}
	}
}

// TestAnswersAreNewMemory: what was answered stays, whatever is answered later.
func TestAnswersAreNewMemory(t *testing.T) { // R4
	town, _ := townScript()
	s := Open()
	var answers, copies []string
	for _, line := range strings.SplitAfter(town+strings.Repeat("chain C\nchains\nvtable B\ncache 2\nmethods Z\n"+example("Z"), 20), "\n") {
		answer := s.Feed(line)
		answers, copies = append(answers, answer), append(copies, strings.Clone(answer))
	}
	if !slices.Equal(answers, copies) {
		t.Error("answers turned")
	}
}

// TestSessionsShareNothing: two sessions, of which each gets its lines between those of the other.
func TestSessionsShareNothing(t *testing.T) { // R4, R8
	one, other := Open(), Open()
	if one.World() == other.World() {
		t.Fatal("one world")
	}
	got := [2]string{}
	first, second := example("A")+"chain A\ncache 64\nrun A.m()I fuel 5\ndefine\nclass B\n", "chain A\n"+class("A", "Object")+"methods A\ncache 65\n"+example("B")+"chain B\n\n\n"
	for at := range max(len(first), len(second)) {
		for n, s := range []*Session{one, other} {
			if text := []string{first, second}[n]; at < len(text) {
				got[n] += s.Feed(text[at : at+1])
			}
		}
	}
	if want := [2]string{"defined 3\nA\nObject\ncached\nthrown 23 spent 0\n", "error 20\ndefined 3\nerror 7\ndefined 4\nB\nObject\n"}; got != want {
		t.Errorf("%q, wanted %q", got, want)
	}
	if one.World().Len() != 4 || other.World().Len() != 5 || one.End() != "error 4\n" || other.End() != "" {
		t.Errorf("%d and %d classes", one.World().Len(), other.World().Len())
	}
}

// TestSessionsOfSeveralGoroutines: each has its own.
func TestSessionsOfSeveralGoroutines(t *testing.T) {
	var all sync.WaitGroup
	for worker := range 4 {
		all.Go(func() {
			for seed := range int64(40) {
				script := randomScript(rand.New(rand.NewSource(seed + int64(worker)*20)))
				x, want := tell(script), ""
				for _, one := range x.moments {
					want += one.text
				}
				if got := Run(script); got != want+x.end.text {
					t.Errorf("Run(%s) answered %s, wanted %s", show(script), show(got), show(want+x.end.text))
				}
			}
		})
	}
	all.Wait()
}

func TestSameAnswersEachTime(t *testing.T) { // R8
	for seed := range int64(60) {
		script := randomScript(rand.New(rand.NewSource(seed)))
		if first := Run(script); Run(script) != first || Run(script) != first {
			t.Errorf("Run(%s) answers otherwise", show(script))
		}
	}
}

// parsed is the class whose lines these are.
func parsed(t *testing.T, text string) api.Class {
	t.Helper()
	c, line, e := shapes.Parse(strings.TrimPrefix(text, "define\n"))
	if e != api.OK {
		t.Fatalf("%s: %d at %d", show(text), e, line)
	}
	return c
}

// TestClassesByHand: what arrives in the world that World answers has arrived in the session, whenever it does.
func TestClassesByHand(t *testing.T) { // P24.4, P0.2
	s := Open()
	byHand := func(text string, want int) {
		t.Helper()
		if id, e := s.World().Define(parsed(t, text)); id != want || e != api.OK {
			t.Fatalf("Define(%s): %d, %d", show(text), id, e)
		}
	}
	run, run2 := "run Main.f()I fuel 20\n", main("()I", "new A, invokevirtual A.m()I, ireturn")
	feed(t, s, []fed{{run, "thrown 20 spent 0\n", 1, 3}})
	byHand(run2, 3)
	feed(t, s, []fed{{run + "chain Main\nchain A\n", "thrown 20 spent 1\nMain\nObject\nerror 20\n", 4, 4}})
	byHand(example("A"), 4)
	feed(t, s, []fed{{run + "chain A\nvtable A\nselect virtual A.m()I A from Main\n", "returned 5 spent 5\nA\nObject\n0 Object.id()I Object.id()I\n1 Object.kin()LObject; Object.kin()LObject;\n2 A.m()I A.m()I\nA.m()I\n", 8, 5}})
	// Within a class, and within a line.
	lines := class("B", "C")
	feed(t, s, []fed{{lines[:20], "", 10, 5}})
	byHand(class("C", "A", method("m ()I public", "iconst 9, ireturn")), 5)
	feed(t, s, []fed{{lines[20:] + "select virtual A.m()I B from Main\ncache 5\nchain", "defined 6\nC.m()I\ncached\n", 16, 7}})
	byHand(class("D", "B"), 7)
	feed(t, s, []fed{{" D\n" + run + class("D", "A") + class("E", "A"), "D\nB\nC\nA\nObject\nreturned 5 spent 5\nerror 25\ndefined 8\n", 30, 9}})
	// Behind the end the world is still there.
	if s.End() != "" || s.World().Len() != 9 {
		t.Errorf("%d classes", s.World().Len())
	}
	byHand(class("F", "E"), 9)
	if s.World().Len() != 10 {
		t.Errorf("%d classes", s.World().Len())
	}
}

// TestArrivalsTurnNothing: what was answered of classes that are there is answered again, behind each arrival.
func TestArrivalsTurnNothing(t *testing.T) { // P0.2, P0.3
	town, _ := townScript()
	questions := "select virtual A.m()I B from Object\nselect interface I:a()I C from Object\nselect interface I:d()I C from Object\nresolve C.m()I from A\nbelow LC; LI;\nvtable C\nitable C\ndisplay C\nchain C\nclosure C\nmethods C\nstatic A.s()I from B\noverrides B.m()I A.m()I\nrun A.s()I fuel 9\nrun I:s()I fuel 9\nrun p/X.m()I fuel 9\n"
	s := Open()
	s.Feed(town)
	want := s.Feed(questions)
	for at, arrival := range []string{example("Z"), class("D", "C", method("m ()I public", "iconst 1, ireturn")), iface("K", method("d ()I public", "iconst 1, ireturn")), of(class("E", "C"), "K"), class("p/Z", "q/Y", method("m ()I public", "iconst 1, ireturn")), "cache 0\n", class("A", "Object"), class("F", "No"), "cache 64\n", class("q/Z", "p/Z")} {
		s.Feed(arrival)
		if got := s.Feed(questions); got != want || strings.Contains(got, "error 4") {
			t.Errorf("behind arrival %d: %q, wanted %q", at, got, want)
		}
	}
}
