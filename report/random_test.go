package report

import (
	"fmt"
	"math/rand"
	"slices"
	"strings"
	"testing"

	"arbiter/api"
	"arbiter/hier"
)

func pick[T any](r *rand.Rand, from ...T) T {
	return from[r.Intn(len(from))]
}

// The names that random classes and references are made of; one is never there.
var (
	randomClasses = []string{"A", "B", "C", "D", "p/A", "p/B", "q/A"}
	randomIfaces  = []string{"I", "J", "p/K", "p/L"}
	randomHeads   = []string{"m ()I", "m ()I", "n ()I", "f (I)I"}
)

func randomName(r *rand.Rand) string {
	return pick(r, pick(r, randomClasses...), pick(r, randomClasses...), pick(r, randomIfaces...), "Object", pick(r, "Cloneable", "Serializable", "No"))
}

func randomInstructions(r *rand.Rand) string {
	var out []string
	for range 1 + r.Intn(3) {
		out = append(out, pick(r, fmt.Sprint("iconst ", r.Intn(9)-4), "iload 1", "new "+randomName(r), "null", "goto 0", "invokestatic "+randomName(r)+".f(I)I", "invokeinterface "+randomName(r)+":m()I", "multinew 1 [I"))
	}
	return strings.Join(append(out, "ireturn"), ", ")
}

// randomMethods are mostly open, and sound as long as the class is: an abstract one asks for nothing of its class.
func randomMethods(r *rand.Rand, isIface bool) []string {
	var out []string
	for _, head := range []string{"m ()I", "n ()I", "f (I)I"} {
		if r.Intn(5) < 2 {
			continue
		}
		open := pick(r, " public", " public", " public", " private")
		if !isIface {
			open = pick(r, open, open, "", " protected", " private")
		}
		switch {
		case open != " private" && r.Intn(6) == 0:
			out = append(out, method(head+open+" abstract", ""))
		case r.Intn(6) == 0 || head == "f (I)I" && r.Intn(4) > 0:
			out = append(out, method(head+open+" static", randomInstructions(r)))
		default:
			out = append(out, method(head+open, randomInstructions(r)))
		}
	}
	r.Shuffle(len(out), func(i, j int) { out[i], out[j] = out[j], out[i] })
	return out
}

func randomClass(r *rand.Rand, name string) string {
	if slices.Contains(randomIfaces, name) != (r.Intn(15) == 0) {
		text := iface(name, randomMethods(r, true)...)
		if r.Intn(2) == 0 {
			text = of(text, pick(r, randomIfaces...))
		}
		return pick(r, text, text, text, flagged("interface abstract", iface(name)))
	}
	text := class(name, pick(r, "Object", pick(r, randomClasses...), pick(r, randomClasses...)), randomMethods(r, false)...)
	for range r.Intn(3) {
		text = of(text, pick(r, pick(r, randomIfaces...), pick(r, randomIfaces...), pick(r, randomIfaces...), "Cloneable", "A"))
	}
	text = flagged(pick(r, "public super", "public super", "public super", "super", "public", "public super abstract"), text)
	return by(pick(r, "0", "0", "0", "0", "1"), text)
}

// randomTexts are the texts of classes that arrive one behind the other, all of them taken: as many as are tried at most.
func randomTexts(r *rand.Rand, tries int) []string {
	var out []string
	w := hier.New()
	for range tries {
		text := randomClass(r, pick(r, append(randomClasses, randomIfaces...)...))
		if one, _, e := toldLoad(strings.Join(append(out, text), "")); e == api.OK {
			out, w = append(out, text), one
		}
	}
	if w.Len() != len(out)+3 {
		panic("classes are missing")
	}
	return out
}

// randomOrder is the same classes in another order in which they may arrive, too.
func randomOrder(r *rand.Rand, texts []string) []string {
	left, out := slices.Clone(texts), []string{}
	for len(left) > 0 {
		at := r.Intn(len(left))
		if _, _, e := toldLoad(strings.Join(append(out, left[at]), "")); e == api.OK {
			out, left = append(out, left[at]), slices.Delete(left, at, at+1)
		}
	}
	return out
}

// turnedTexts have one class turned, or left out, or one more.
func turnedTexts(r *rand.Rand, texts []string) []string {
	out := slices.Clone(texts)
	at := r.Intn(len(out))
	name := strings.Fields(out[at])[1]
	switch r.Intn(6) {
	case 0:
		out = slices.Delete(out, at, at+1)
	case 1:
		out = append(out, randomClass(r, pick(r, randomClasses...)))
	case 2:
		out[at] = strings.Replace(out[at], " public\n", pick(r, "\n", " private\n", " public final\n"), 1)
	default:
		out[at] = randomClass(r, name)
	}
	if _, _, e := toldLoad(strings.Join(out, "")); e != api.OK {
		return turnedTexts(r, texts)
	}
	return out
}

func randomRefs(r *rand.Rand, n int) []api.Ref {
	var out []api.Ref
	for range n {
		name := randomName(r)
		mark := map[bool]string{false: ".", true: ":"}[slices.Contains(randomIfaces, name) != (r.Intn(10) == 0)]
		out = append(out, ref(pick(r, name, name, name, name, "[L"+name+";", "[I")+mark+strings.Replace(pick(r, append(randomHeads, randomHeads...)...), " ", "", 1)))
		if r.Intn(12) == 0 {
			out[len(out)-1] = ref(pick(r, "A.m", "A.1()I", ".m()I", "A.id()I", "Object.kin()LObject;", "A.<init>()V", "[A.m()I"))
		}
	}
	return out
}

// TestRandomWorlds: all that is asked of one world.
func TestRandomWorlds(t *testing.T) { // P25.1 to P25.4
	sizes := map[int]int{}
	for seed := range int64(150) {
		r := rand.New(rand.NewSource(seed))
		texts := randomTexts(r, 25)
		sizes[len(texts)]++
		text := strings.Join(texts, "")
		w, line, e := Load(text)
		if line != 0 || e != api.OK {
			t.Fatalf("Load(%s) answered %d, %d", show(text), line, e)
		}
		holdsLoad(t, text)
		if got, e := World(w); got != text || got != toldWorld(w) || e != api.OK {
			t.Errorf("World answered %s, %d, wanted %s", show(got), e, show(text))
		}
		l := linkerOf(t, w)
		for id := -1; id <= w.Len(); id++ {
			want, wantE := "", api.ErrRange
			if 0 <= id && id < w.Len() {
				want, wantE = toldTables(w, id), api.OK
			}
			if got, e := Tables(l, id); got != want || e != wantE {
				t.Errorf("Tables(%d) of %s = %q, %d, wanted %q", id, show(text), got, e, want)
			}
		}
		for _, other := range [][]string{texts, randomOrder(r, texts), turnedTexts(r, texts), texts[:len(texts)-1]} {
			b := loaded(t, strings.Join(other, ""))
			holdsSame(t, "random worlds", w, b, slices.Equal(texts, other))
		}
	}
	if len(sizes) < 4 {
		t.Errorf("sizes: %v", sizes)
	}
}

// spoilt turns some lines of a text, leaves them out, has them twice, or cuts the text.
func spoilt(r *rand.Rand, text string) string {
	for range r.Intn(3) {
		all := strings.SplitAfter(text, "\n")
		at := r.Intn(len(all))
		other := pick(r, "", "\n", "end\n", "end", "ends\n", "x\n", "loader 10\n", "loader 01\n", "flags final abstract\n", "super No\n", "super Cloneable\n", "class A\n", "locals 0\n", "iface I\n", "return\n", all[r.Intn(len(all))], example("A"), class("Z", "p/A"), "\x00\n")
		all[at] = pick(r, other, all[at]+other, other+all[at])
		text = strings.Join(all, "")
	}
	if r.Intn(4) == 0 {
		text = text[:r.Intn(len(text)+1)]
	}
	return text
}

// TestRandomTexts: what Load answers for texts that mostly have a fault somewhere.
func TestRandomTexts(t *testing.T) { // P25.2
	met := map[string]int{}
	for seed := range int64(4000) {
		r := rand.New(rand.NewSource(seed))
		texts := randomTexts(r, r.Intn(20))
		for range r.Intn(3) {
			text := randomClass(r, pick(r, randomName(r), "Z", "z/Z"))
			texts = append(texts, pick(r, text, by("2", text)))
		}
		text := strings.Join(texts, "")
		if r.Intn(2) == 0 {
			text = spoilt(r, text)
		}
		holdsLoad(t, text)
		_, line, e := Load(text)
		met[fmt.Sprint("error ", int(e), ", at the beginning: ", line == 1)]++
	}
	for _, e := range []api.Errno{api.ErrText, api.ErrForm, api.NoClassDef, api.Incompatible, api.Linkage, api.IllegalAccess} {
		if met[fmt.Sprint("error ", int(e), ", at the beginning: false")] < 10 {
			t.Errorf("of error %d: %v", e, met)
		}
	}
	if met["error 0, at the beginning: false"] < 100 {
		t.Errorf("without an error: %v", met)
	}
}

// TestShortTexts: all texts of few short parts.
func TestShortTexts(t *testing.T) { // P25.2
	parts := []string{"end\n", "end", "\n", "class A\n", class("A", "Object"), class("B", "A"), by("10", class("C", "A")), "x"}
	var all func(text string, left int)
	all = func(text string, left int) {
		holdsLoad(t, text)
		for _, part := range parts {
			if left > 0 {
				all(text+part, left-1)
			}
		}
	}
	all("", 5)
}

// TestRandomDifferences: what two worlds answer differently, of which one is the other with one thing turned, or any other.
func TestRandomDifferences(t *testing.T) { // P25.5
	met := map[string]int{}
	for seed := range int64(80) {
		r := rand.New(rand.NewSource(seed))
		texts := randomTexts(r, 20)
		others := pick(r, turnedTexts(r, texts), turnedTexts(r, texts), turnedTexts(r, texts), randomTexts(r, 20))
		a, b := linked(t, strings.Join(texts, "")), linked(t, strings.Join(pick(r, others, randomOrder(r, others)), ""))
		for _, kind := range allKinds {
			list := randomRefs(r, 15)
			want, wantE := toldDiffer(a, b, kind, list)
			for range 2 {
				if got, e := Differ(a, b, kind, list); got != want || e != wantE {
					t.Errorf("Differ(%s, %s, %d, %v) = %d, %d, wanted %d", show(strings.Join(texts, "")), show(strings.Join(others, "")), kind, list, got, e, want)
				}
				if got, e := Differ(b, a, kind, list); got != want || e != wantE {
					t.Errorf("Differ back by %d = %d, %d, wanted %d", kind, got, e, want)
				}
			}
			met[fmt.Sprint("kind ", kind, ", some: ", want > 0)]++
		}
	}
	for _, kind := range allKinds {
		for _, some := range []bool{false, true} {
			if of := fmt.Sprint("kind ", kind, ", some: ", some); met[of] < 10 {
				t.Errorf("%s: %v", of, met)
			}
		}
	}
}

// TestOfTwoOrders: worlds in which the same classes arrived in two orders answer all alike, and are the same just if the orders are.
func TestOfTwoOrders(t *testing.T) { // What follows
	others := 0
	for seed := range int64(60) {
		r := rand.New(rand.NewSource(seed))
		texts := randomTexts(r, 20)
		order := randomOrder(r, texts)
		one, other := loaded(t, strings.Join(texts, "")), loaded(t, strings.Join(order, ""))
		a, b := linkerOf(t, one), linkerOf(t, other)
		for _, kind := range allKinds {
			list := randomRefs(r, 25)
			if n, e := Differ(a, b, kind, list); n != 0 || e != api.OK {
				t.Errorf("Differ(%s, %s, %d, %v) = %d, %d", show(strings.Join(texts, "")), show(strings.Join(order, "")), kind, list, n, e)
			}
			if n, e := Differ(b, a, kind, list); n != 0 || e != api.OK {
				t.Errorf("Differ back by %d = %d, %d", kind, n, e)
			}
		}
		isSame := slices.Equal(texts, order)
		holdsSame(t, "two orders", one, other, isSame)
		if !isSame {
			others++
		}
	}
	if others < 30 {
		t.Errorf("%d orders were others", others)
	}
}

// TestWrittenAndRead: Load of World's text is the same world, and its text is the same again.
func TestWrittenAndRead(t *testing.T) { // What follows
	names, _ := full()
	for at, text := range []string{"", example("A"), townText(), strings.Join(great(), ""), strings.Join(names, ""), townOfRefusals()} {
		w := loaded(t, text)
		for range 2 {
			written, e := World(w)
			again := loaded(t, written)
			if written != text || e != api.OK || !Same(w, again) || !Same(again, w) || facts(w) != facts(again) {
				t.Errorf("%d: World answered %s, %d", at, show(written), e)
			}
			for _, kind := range allKinds {
				if n, e := Differ(linkerOf(t, w), linkerOf(t, again), kind, refs("A.m()I", "p/I:m()I", "Object.id()I", "[I.id()I")[:min(4, 300/w.Len())]); n != 0 || e != api.OK {
					t.Errorf("%d: Differ = %d, %d", at, n, e)
				}
			}
			w = again
		}
	}
}
