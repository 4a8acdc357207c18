package query

import (
	"math/rand"
	"reflect"
	"slices"
	"strings"
	"sync"
	"testing"

	"arbiter/api"
	"arbiter/hier"
	"arbiter/link"
)

// worldFacts is all that a world answers about its classes, as one value that may be compared.
func worldFacts(w *hier.World) []any {
	out := []any{w.Len()}
	for id := range w.Len() {
		c, _ := w.Class(id)
		super, e := w.Super(id)
		closure, _ := w.Closure(id)
		at, _ := w.ByName(c.Name)
		out = append(out, c, super, e, closure, at)
	}
	return out
}

// linkFacts is what a linker has built.
func linkFacts(l *link.Linker) []any {
	out := []any{l.Builds()}
	for id := range l.World().Len() {
		out = append(out, l.Built(id))
	}
	return out
}

// allTables are the tables of all classes.
func allTables(l *link.Linker) []any {
	var out []any
	for id := range l.World().Len() {
		tables, e := l.Tables(id)
		out = append(out, tables, e)
	}
	return out
}

// townLines are lines of each command, of whose answers some have no lines, some one, and some many.
func townLines() []string {
	lines := []string{"select virtual A.m()V B from Object", "select virtual A.m()V Object from A", "static A.s()V from A", "static A.m()V from A", "resolve C.m()V from B", "resolve No.m()V from B", "below LB; LI;", "below LI; LB;", "below LNo; I", "overrides B.m()V A.m()V", "overrides A.m()V B.m()V"}
	for _, form := range formsOf()[5:] {
		for _, name := range []string{"Object", "I", "J", "B", "C", "p/Z", "E"} {
			lines = append(lines, strings.Replace(form, "CLASS", name, 1))
		}
	}
	return lines
}

// written is one answer with its error.
type written struct {
	lines []string
	e     api.Errno
}

func (a written) is(b written) bool {
	return slices.Equal(a.lines, b.lines) && a.e == b.e
}

func ask(l *link.Linker, line string) written {
	lines, e := Ask(l, line)
	return written{lines, e}
}

func askAll(l *link.Linker, lines []string) []written {
	var out []written
	for _, line := range lines {
		out = append(out, ask(l, line))
	}
	return out
}

func TestAnswersAreNewMemory(t *testing.T) { // R4
	l := town(t)
	lines := townLines()
	want := askAll(town(t), lines)
	before := worldFacts(l.World())
	kept := askAll(l, lines)
	for at, line := range lines {
		got := ask(l, line).lines
		whole := got[:cap(got)]
		for place := range whole {
			whole[place] = "written over"
		}
		_ = append(got[:len(got)/2], "grown", "grown", "grown")
		if again := ask(l, line); !again.is(want[at]) || !kept[at].is(want[at]) {
			t.Errorf("writing over an answer to %s turned another into %s", line, show(again, kept[at]))
		}
	}
	for at, line := range lines {
		if again := ask(l, line); !again.is(want[at]) || !kept[at].is(want[at]) {
			t.Errorf("writing over answers turned that to %s into %s", line, show(again, kept[at]))
		}
	}
	if !reflect.DeepEqual(worldFacts(l.World()), before) || !reflect.DeepEqual(allTables(l), allTables(town(t))) {
		t.Errorf("writing over answers turned the world, or the linker's tables")
	}
}

func TestTheWorldStaysAsItWas(t *testing.T) { // R4, R5
	l := town(t)
	before := worldFacts(l.World())
	for _, line := range append(townLines(), "", "x", "chain No", "chain 1", "chain A A", "overrides No.m()V x") {
		Ask(l, line)
	}
	for _, text := range append(noRefs(), "A.m()V", "No.m()V", "A:m()V", "A.none()V") {
		Find(l.World(), text)
	}
	for c := range townSize + 1 {
		Name(l.World(), id(c, 0))
	}
	if !reflect.DeepEqual(worldFacts(l.World()), before) {
		t.Errorf("the questions have turned the world")
	}
	if got := define(t, l.World(), class("Later", "A")); got != townSize {
		t.Errorf("Define = %d", got)
	}
}

// TestRefusedLinesLeaveNothing: no tables are built for a line that is refused.
func TestRefusedLinesLeaveNothing(t *testing.T) { // R5
	l := town(t)
	for _, command := range []string{"vtable", "itable", "display"} {
		for _, line := range []string{"", " A A", " No", " 1", " A ", "  A", "s A"} {
			if got := ask(l, command+line); got.e == api.OK {
				t.Errorf("Ask(%s%s) is taken", command, line)
			}
		}
	}
	for _, line := range []string{"static x from A", "select virtual A.m()V A from No", "overrides A.m()V x", "below LA; x", strings.Repeat("x", api.MaxLine+1)} {
		Ask(l, line)
	}
	if l.Builds() != 0 {
		t.Errorf("%d builds", l.Builds())
	}
}

// TestTablesAreAskedOfTheLinker: they are built when a question needs them, and once.
func TestTablesAreAskedOfTheLinker(t *testing.T) { // P23.3; P17.2
	for _, command := range []string{"vtable", "itable", "display"} {
		l := town(t)
		for _, line := range []string{"select virtual A.m()V B from Object", "static A.s()V from A", "resolve C.m()V from B", "below LB; LI;", "overrides B.m()V A.m()V", "chain C", "closure C", "methods C"} {
			Ask(l, line)
		}
		if l.Builds() != 0 {
			t.Errorf("%d builds for what needs no tables", l.Builds())
		}
		for range 3 {
			isTaken(t, l, command+" B")
			if l.Builds() != 3 || !l.Built(townB) || !l.Built(townA) || !l.Built(0) || l.Built(townC) {
				t.Errorf("%s B: %v", command, linkFacts(l))
			}
		}
	}
}

func TestSameLinesSameAnswers(t *testing.T) { // R8
	l := town(t)
	first := askAll(l, townLines())
	for range 3 {
		for at, line := range townLines() {
			if again := ask(l, line); !again.is(first[at]) {
				t.Errorf("Ask(%s) = %s, and then %s", line, show(first[at]), show(again))
			}
		}
	}
}

// TestWorldsAreTheirOwn: what one world was asked says nothing of another.
func TestWorldsAreTheirOwn(t *testing.T) { // R8
	wide := linkerOf(t, class("p/A", "Object", method("m", normal)), class("q/B", "p/A", method("m", normal)))
	narrow := linkerOf(t, class("p/A", "Object", method("m", 0)), class("q/B", "p/A", method("m", normal)))
	for range 2 {
		says(t, wide, "overrides q/B.m()V p/A.m()V", "yes")
		says(t, narrow, "overrides q/B.m()V p/A.m()V", "no")
		says(t, wide, "vtable q/B", "0 Object.id()I Object.id()I", "1 Object.kin()LObject; Object.kin()LObject;", "2 p/A.m()V q/B.m()V")
		says(t, narrow, "vtable q/B", "0 Object.id()I Object.id()I", "1 Object.kin()LObject; Object.kin()LObject;", "2 p/A.m()V p/A.m()V", "3 q/B.m()V q/B.m()V")
	}
}

// mayTurn says whether an answer says that something is not there, which alone later classes may turn.
func mayTurn(a written) bool {
	return a.e == api.NoClassDef || len(a.lines) == 1 && a.lines[0] == "error 20"
}

// TestLaterClassesTurnNothing: lines are asked ahead of each class that arrives and behind it, of a linker that builds all tables as soon as it can, and of one that is made last.
func TestLaterClassesTurnNothing(t *testing.T) { // P0.3
	turned, kept := 0, 0
	for seed := range int64(8) {
		classes := randomClasses(t, 300+seed, 24)
		whole := newTold(worldOf(t, classes...))
		r := rand.New(rand.NewSource(seed))
		var lines []string
		for range 400 { // about all classes, also those that are yet to arrive
			lines = append(lines, whole.randomLine(r))
		}
		w := hier.New()
		early, asking := newLinker(t, w), newLinker(t, w)
		was := askAll(asking, lines)
		for _, c := range classes {
			define(t, w, c)
			allTables(early)
			x := newTold(w)
			for at, line := range lines {
				got := ask(asking, line)
				switch {
				case got.is(was[at]):
					kept++
				case !mayTurn(was[at]):
					t.Errorf("seed %d: the arrival of %s turned the answer to %s from %s into %s", seed, c.Name, line, show(was[at]), show(got))
				default:
					turned++
				}
				was[at] = got
				if r.Intn(20) == 0 {
					agree(t, early, x, line)
				}
			}
		}
		late := newLinker(t, w)
		for at, line := range lines {
			agree(t, late, whole, line)
			if got := ask(early, line); !got.is(was[at]) {
				t.Errorf("Ask(%s) = %s, and of a linker that built its tables early %s", line, show(was[at]), show(got))
			}
		}
	}
	if turned < 500 || kept < 5000 {
		t.Errorf("%d answers turned, %d stayed", turned, kept)
	}
}

// TestArrivals: what was not there is there, and nothing else is another.
func TestArrivals(t *testing.T) { // P0.3
	l := linkerOf(t)
	refuses(t, l, "chain A", api.NoClassDef)
	refuses(t, l, "overrides A.m()V A.m()V", api.NoClassDef)
	refuses(t, l, "resolve A.m()V from A", api.NoClassDef)
	says(t, l, "resolve A.m()V from Object", "error 20")
	says(t, l, "below LA; LObject;", "error 20")
	says(t, l, "select virtual Object.id()I A from Object", "error 20")
	findRefused(t, l.World(), "A.m()V", api.NoClassDef)
	nameRefused(t, l.World(), id(3, 0), api.ErrRange)
	define(t, l.World(), class("A", "Object", method("m", normal)))
	says(t, l, "chain A", "A", "Object")
	says(t, l, "overrides A.m()V A.m()V", "yes")
	says(t, l, "resolve A.m()V from A", "A.m()V")
	says(t, l, "resolve A.m()V from Object", "A.m()V")
	says(t, l, "below LA; LObject;", "yes")
	says(t, l, "select virtual Object.id()I A from Object", "Object.id()I")
	findIs(t, l.World(), "A.m()V", id(3, 0))
	nameIs(t, l.World(), id(3, 0), "A.m()V")
	tables := askAll(l, []string{"vtable A", "itable A", "display A"})
	define(t, l.World(), class("B", "A", method("m", normal)))
	for at, again := range askAll(l, []string{"vtable A", "itable A", "display A"}) {
		if !again.is(tables[at]) {
			t.Errorf("the arrival of B turned %s into %s", show(tables[at]), show(again))
		}
	}
	says(t, l, "select virtual A.m()V A from Object", "A.m()V")
	says(t, l, "select virtual A.m()V B from Object", "B.m()V")
}

// TestSeveralAskAtOnce: a linker may be used by several goroutines at one time, and so may its questions.
func TestSeveralAskAtOnce(t *testing.T) { // P17.8
	want := askAll(town(t), townLines())
	l := town(t)
	got := make([][]written, 8)
	var all sync.WaitGroup
	for worker := range got {
		all.Go(func() { got[worker] = askAll(l, townLines()) })
	}
	all.Wait()
	for worker, answers := range got {
		for at, line := range townLines() {
			if !answers[at].is(want[at]) {
				t.Errorf("worker %d: Ask(%s) = %s, want %s", worker, line, show(answers[at]), show(want[at]))
			}
		}
	}
	if l.Builds() > townSize {
		t.Errorf("%d builds", l.Builds())
	}
}
