package report

import (
	"slices"
	"strings"
	"sync"
	"testing"
	"unsafe"

	"arbiter/api"
	"arbiter/hier"
	"arbiter/link"
)

// inMemory is a text in memory that may be written over.
func inMemory(text string) (string, []byte) {
	memory := []byte(text)
	return unsafe.String(unsafe.SliceData(memory), len(memory)), memory
}

func writeOver(memory []byte) {
	for at := range memory {
		memory[at] = '\n'
	}
}

// TestTextsAreNotKept: the text is written over behind Load, and the world stays.
func TestTextsAreNotKept(t *testing.T) { // R4
	for _, text := range []string{example("A"), townText(), strings.Join(great(), ""), example("A") + "x", by("10", example("A")), example("A") + example("A")} {
		s, memory := inMemory(text)
		w, line, e := Load(s)
		if string(memory) != text {
			t.Fatalf("Load(%s) turned its text", show(text))
		}
		before := facts(w)
		l, _ := link.New(w)
		tables, _ := Tables(l, 3)
		writeOver(memory)
		told, toldLine, toldE := toldLoad(text)
		if line != toldLine || e != toldE || facts(w) != before || facts(told) != before {
			t.Errorf("Load(%s) keeps its text", show(text))
		}
		if again, _ := Tables(l, 3); again != tables {
			t.Errorf("Tables of %s = %q, wanted %q", show(text), again, tables)
		}
		if w == nil {
			continue
		}
		if got, _ := World(w); got != text {
			t.Errorf("World answered %s, wanted %s", show(got), show(text))
		}
		for id := 3; id < w.Len(); id++ {
			if got, e := w.ByName(nameIn(told, id)); got != id || e != api.OK {
				t.Errorf("ByName = %d, %d, wanted %d", got, e, id)
			}
		}
	}
}

// TestAnswersAreNewMemory: texts that were answered are written over, and nothing else turns.
func TestAnswersAreNewMemory(t *testing.T) { // R4
	for _, text := range []string{example("A"), class("A", "Object"), townText()} {
		w := loaded(t, text)
		l := linkerOf(t, w)
		ask := func() []string {
			var out []string
			for id := range w.Len() {
				tables, _ := Tables(l, id)
				out = append(out, tables)
			}
			written, _ := World(w)
			return append(out, written)
		}
		first, before := ask(), facts(w)
		want := make([]string, len(first))
		for at, answer := range first {
			want[at] = strings.Clone(answer)
		}
		for _, answer := range first {
			writeOver(unsafe.Slice(unsafe.StringData(answer), len(answer)))
		}
		if got := ask(); !slices.Equal(got, want) || facts(w) != before {
			t.Errorf("answers of %s turned", show(text))
		}
	}
}

// TestWorldsAreNew: each Load has a world of its own.
func TestWorldsAreNew(t *testing.T) { // R4
	for _, text := range []string{"", example("A"), townText()} {
		one, other := loaded(t, text), loaded(t, text)
		if one == other {
			t.Fatal("one world")
		}
		n := other.Len()
		if _, e := one.Define(parsed(t, example("Z"))); e != api.OK {
			t.Fatal(e)
		}
		if Same(one, other) || other.Len() != n || !Same(other, loaded(t, text)) {
			t.Errorf("worlds of %s share something", show(text))
		}
	}
	if loaded(t, "") == loaded(t, "") {
		t.Error("one new world")
	}
}

// TestReferencesAreLeftAlone: what lies behind the list is not read, and nothing of it is written or kept.
func TestReferencesAreLeftAlone(t *testing.T) { // R4
	a, b := linked(t, class("A", "Object", five("m ()I public"), five("f ()I public static"))), linked(t, class("A", "Object"))
	for _, kind := range []int{api.Virtual, api.Special, api.StaticInv} {
		want := 8
		if kind == api.StaticInv {
			want = 4
		}
		whole := refs("A.f()I", "A.m()I", "A.m()I", "No.m()I", "A.f()I", "A.m()I", "A.m()I")
		before := slices.Clone(whole)
		name, memory := inMemory("A")
		whole[2].Class = name
		got, e := Differ(a, b, kind, whole[2:4])
		if got != want || e != api.OK || !slices.Equal(whole, before) {
			t.Errorf("Differ by %d = %d, %d, and %v", kind, got, e, whole)
		}
		for at := range whole {
			whole[at] = api.Ref{Class: "junk"}
		}
		writeOver(memory)
		if got, e := Differ(a, b, kind, before[2:4]); got != want || e != api.OK {
			t.Errorf("Differ by %d = %d, %d", kind, got, e)
		}
		if many := slices.Repeat(before[2:3], api.MaxAsk+1); cap(many) > api.MaxAsk {
			if got, e := Differ(a, b, kind, many[:1]); got != want || e != api.OK {
				t.Errorf("Differ by %d = %d, %d", kind, got, e)
			}
		}
	}
}

// TestNoQuestionTurnsAWorld: not those that are refused either.
func TestNoQuestionTurnsAWorld(t *testing.T) { // R4, R5, R8
	one, other := loaded(t, townText()), loaded(t, example("A")+class("B", "A"))
	a, b := linkerOf(t, one), linkerOf(t, other)
	before, otherBefore := facts(one), facts(other)
	var first []any
	for round := range 3 {
		var all []any
		tell := func(answers ...any) { all = append(all, answers...) }
		for id := -1; id <= one.Len(); id++ {
			text, e := Tables(a, id)
			tell(text, e)
		}
		for _, kind := range append(allKinds, 0, 5) {
			for _, list := range [][]api.Ref{nil, refs("A.m()I", "A.n()I", "No.m()I", "p/I:m()I", "A.f()I", "A.1()I"), make([]api.Ref, api.MaxAsk+1)} {
				n, e := Differ(a, b, kind, list)
				back, backE := Differ(b, a, kind, list)
				none, noneE := Differ(a, nil, kind, list)
				tell(n, e, back, backE, none, noneE)
			}
		}
		text, e := World(one)
		tell(text, e, Same(one, other), Same(other, one), Same(one, one), Same(nil, one))
		if round == 0 {
			first = all
		}
		if !slices.Equal(all, first) || facts(one) != before || facts(other) != otherBefore {
			t.Errorf("round %d answers %v, the first %v", round, all, first)
		}
	}
	if a.World() != one || b.World() != other {
		t.Error("linkers have other worlds")
	}
}

// TestLaterClasses: what arrives in both worlds behind a question turns no answer about the classes that were there.
func TestLaterClasses(t *testing.T) { // P0.2, P0.3
	one, other := hier.New(), hier.New()
	a, b := linkerOf(t, one), linkerOf(t, other)
	list := refs("A.m()I", "B.m()I", "[LA;.id()I")
	arrive := func(w *hier.World, text string) {
		t.Helper()
		if _, e := w.Define(parsed(t, text)); e != api.OK {
			t.Fatal(e)
		}
	}
	step := func(want int) {
		t.Helper()
		got, e := Differ(a, b, api.Virtual, list)
		if told, _ := toldDiffer(a, b, api.Virtual, list); got != want || told != want || e != api.OK {
			t.Errorf("Differ = %d, %d, told %d, wanted %d", got, e, told, want)
		}
	}
	step(0)
	arrive(one, example("A"))
	// Of three callers, for the receiver Object, by two references.
	step(6)
	arrive(other, example("A"))
	step(0)
	arrive(other, iface("B"))
	// B is not in the first world, but what names it is another error now.
	step(8)
	arrive(one, example("C"))
	step(8)
	arrive(one, strings.Replace(example("B"), "super Object", "super A", 1))
	// Now both have it, and none of both receivers is below it there.
	step(0)
}

// TestSeveralGoroutines: linkers may be used by several at one time.
func TestSeveralGoroutines(t *testing.T) {
	turned := strings.Replace(townText(), "class B\nsuper A\n", "class B\nsuper Object\n", 1)
	a, b := linked(t, townText()), linked(t, turned)
	list := refs("A.n()I", "p/I:m()I", "B.m()I", "A.f()I", "No.m()I", "[I.id()I")
	want := map[int]int{}
	for _, kind := range allKinds {
		want[kind], _ = toldDiffer(a, b, kind, list)
	}
	var all sync.WaitGroup
	for worker := range 8 {
		all.Go(func() {
			for round := range 10 {
				kind := allKinds[(worker+round)%4]
				if got, e := Differ(a, b, kind, list); got != want[kind] || e != api.OK {
					t.Errorf("Differ by %d = %d, %d, wanted %d", kind, got, e, want[kind])
				}
				id := (worker + round) % len(townTables)
				if got, e := Tables(a, id); got != townTables[id].tables || e != api.OK {
					t.Errorf("Tables(%d) = %q, %d", id, got, e)
				}
				if got, e := World(a.World()); got != townText() || e != api.OK {
					t.Errorf("World = %s, %d", show(got), e)
				}
			}
		})
	}
	all.Wait()
}
