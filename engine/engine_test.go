package engine

import (
	"fmt"
	"math"
	"slices"
	"strconv"
	"strings"
	"testing"

	"arbiter/api"
	"arbiter/code"
	"arbiter/hier"
	"arbiter/link"
)

const (
	least, greatest       = math.MinInt, math.MaxInt
	leastInt, greatestInt = -1 << 31, 1<<31 - 1
)

// The flags of methods, as they are written most often.
const (
	normal   = api.Public
	abstract = api.Public | api.AbstractFl
	static   = api.Public | api.Static
)

// plenty is more fuel than the short methods here need.
const plenty = 1000

// capacities are of all kinds of caches, with both edges.
var capacities = []int{0, 1, 2, 3, 64}

// instructions reads lines with a comma and a blank between.
func instructions(t testing.TB, lines string) []api.Inst {
	t.Helper()
	var out []api.Inst
	for _, line := range strings.Split(lines, ", ") {
		i, e := code.Parse(line)
		if e != api.OK {
			t.Fatalf("no instruction: %q", line)
		}
		out = append(out, i)
	}
	return out
}

// named splits a method's name from its descriptor.
func named(text string) (name, desc string) {
	at := strings.Index(text, "(")
	return text[:at], text[at:]
}

// method is one of four locals and room for six operands; without lines it has no code.
func method(t testing.TB, text string, flags int, lines string) api.Method {
	t.Helper()
	m := api.Method{Flags: flags}
	m.Name, m.Desc = named(text)
	if lines != "" {
		m.Locals, m.Stack, m.Code = 4, 6, instructions(t, lines)
	}
	return m
}

// sized has another number of locals and another room.
func sized(m api.Method, locals, stack int) api.Method {
	m.Locals, m.Stack = locals, stack
	return m
}

func class(name, super string, methods ...api.Method) api.Class {
	return api.Class{Name: name, Super: super, Flags: api.Public | api.Super, Methods: methods}
}

func iface(name string, methods ...api.Method) api.Class {
	return api.Class{Name: name, Super: "Object", Flags: api.Public | api.Interface | api.AbstractFl, Methods: methods}
}

// of names interfaces, flagged has other flags.
func of(c api.Class, ifaces ...string) api.Class {
	c.Ifaces = ifaces
	return c
}

func flagged(c api.Class, flags int) api.Class {
	c.Flags = flags
	return c
}

func define(t testing.TB, w *hier.World, c api.Class) int {
	t.Helper()
	id, e := w.Define(c)
	if e != api.OK {
		t.Fatalf("Define(%.200s): %d", fmt.Sprintf("%+v", c), e)
	}
	return id
}

func worldOf(t testing.TB, classes ...api.Class) *hier.World {
	t.Helper()
	w := hier.New()
	for _, c := range classes {
		define(t, w, c)
	}
	return w
}

func newLinker(t testing.TB, w *hier.World) *link.Linker {
	t.Helper()
	l, e := link.New(w)
	if e != api.OK {
		t.Fatalf("link.New: %d", e)
	}
	return l
}

// linkerOf links a world of these classes.
func linkerOf(t testing.TB, classes ...api.Class) *link.Linker {
	t.Helper()
	return newLinker(t, worldOf(t, classes...))
}

func newEngine(t testing.TB, l *link.Linker, capacity int) *Engine {
	t.Helper()
	g, e := New(l, capacity)
	if g == nil || e != api.OK {
		t.Fatalf("New(%d) = %v, %d", capacity, g, e)
	}
	return g
}

// ref cuts a reference's text, sound or not: p/A.m()V or p/I:m()V.
func ref(text string) api.Ref {
	at := strings.IndexAny(text, ".:")
	name, desc := text[at+1:], ""
	if end := strings.Index(name, "("); end >= 0 {
		name, desc = named(name)
	}
	return api.Ref{Iface: text[at] == ':', Class: text[:at], Name: name, Desc: desc}
}

// word is how these tests write an error.
func word(e api.Errno) string {
	switch e {
	case api.NoClassDef:
		return "NoClassDef"
	case api.NoSuchMethod:
		return "NoSuchMethod"
	case api.IllegalAccess:
		return "IllegalAccess"
	case api.Incompatible:
		return "Incompatible"
	case api.Abstract:
		return "Abstract"
	case api.NullPointer:
		return "NullPointer"
	case api.ClassCast:
		return "ClassCast"
	case api.ArrayStore:
		return "ArrayStore"
	case api.Arithmetic:
		return "Arithmetic"
	case api.NegativeSize:
		return "NegativeSize"
	case api.IndexBounds:
		return "IndexBounds"
	case api.OutOfMemory:
		return "OutOfMemory"
	case api.StackOverflow:
		return "StackOverflow"
	case api.Instantiation:
		return "Instantiation"
	case api.Malformed:
		return "Malformed"
	case api.FuelSpent:
		return "FuelSpent"
	case api.OutFull:
		return "OutFull"
	}
	return strconv.Itoa(int(e))
}

// said is how these tests write a result: what was written, with a blank behind each line; how it ended; and the fuel that was spent.
func said(r api.Result) string {
	var end string
	switch {
	case r.Thrown != api.OK && (r.Has || r.Value != api.Value{}), !r.Has && r.Value != api.Value{}:
		end = fmt.Sprintf("not a result: %+v", r)
	case r.Thrown != api.OK:
		end = word(r.Thrown)
	case r.Has && r.Value.Ref:
		end = fmt.Sprint("ref ", r.Value.N)
	case r.Has:
		end = strconv.Itoa(r.Value.N)
	default:
		end = "returned"
	}
	return fmt.Sprintf("%s%s spent %d", strings.ReplaceAll(r.Out, "\n", " "), end, r.Spent)
}

// subject is an engine, and the same told a second time.
type subject struct {
	*Engine
	second *told
}

func newSubject(t testing.TB, l *link.Linker, capacity int) subject {
	t.Helper()
	return subject{newEngine(t, l, capacity), newTold(l.World())}
}

// run holds all that a Run does against the second telling, and answers what it answered.
func (s subject) run(t testing.TB, main api.Ref, args []int, fuel int) (api.Result, api.Errno) {
	t.Helper()
	before := s.Reads()
	got, e := s.Run(main, args, fuel)
	if want, wantErr := s.second.run(main, args, fuel); got != want || e != wantErr {
		t.Errorf("capacity %d: Run(%.100s, %v, %d) = %s, %d, want %s, %d", s.capacity, fmt.Sprint(main), args, fuel, said(got), e, said(want), wantErr)
	}
	if counts := s.Counts(); !slices.Equal(counts, s.second.counts[:]) {
		t.Errorf("capacity %d: behind Run(%.100s, %v, %d) Counts() = %v, want %v", s.capacity, fmt.Sprint(main), args, fuel, counts, s.second.counts)
	}
	if now := s.Reads(); now < before || e != api.OK && now != before {
		t.Errorf("capacity %d: Run(%.100s) has turned Reads from %d into %d", s.capacity, fmt.Sprint(main), before, now)
	}
	return got, e
}

// says runs and holds the result against a text.
func (s subject) says(t testing.TB, text string, args []int, fuel int, want string) {
	t.Helper()
	if got, e := s.run(t, ref(text), args, fuel); e != api.OK || said(got) != want {
		t.Errorf("capacity %d: Run(%s, %v, %d) = %s, %d, want %s", s.capacity, text, args, fuel, said(got), e, want)
	}
}

func (s subject) refuses(t testing.TB, main api.Ref, args []int, fuel int, want api.Errno) {
	t.Helper()
	got, e := s.run(t, main, args, fuel)
	if e != want || got != (api.Result{}) {
		t.Errorf("Run(%.100s, %.100s, %d) = %+v, %d, want %d", fmt.Sprint(main), fmt.Sprint(args), fuel, got, e, want)
	}
}

func (s subject) counted(t testing.TB, want ...int) {
	t.Helper()
	if got := s.Counts(); !slices.Equal(got, want) {
		t.Errorf("Counts() = %v, want %v", got, want)
	}
}

func TestNew(t *testing.T) { // P22.1
	l := linkerOf(t)
	for capacity := -3; capacity <= api.MaxCache+3; capacity++ {
		want := api.OK
		if capacity < 0 || capacity > 64 {
			want = api.ErrBadConfig
		}
		if g, e := New(l, capacity); e != want || (g != nil) != (want == api.OK) {
			t.Errorf("New(%d) = %v, %d, want %d", capacity, g, e, want)
		}
	}
	for _, capacity := range []int{least, greatest, 1 << 32, -1<<32 + 1, 1<<32 + 64} {
		if g, e := New(l, capacity); g != nil || e != api.ErrBadConfig {
			t.Errorf("New(%d) = %v, %d", capacity, g, e)
		}
	}
	for _, capacity := range []int{0, 64, -1, 65, least, greatest} { // the nil Linker is named first
		if g, e := New(nil, capacity); g != nil || e != api.ErrArg {
			t.Errorf("New(nil, %d) = %v, %d", capacity, g, e)
		}
	}
}

func TestANewEngine(t *testing.T) { // P22.4
	for _, capacity := range capacities {
		g := newEngine(t, linkerOf(t), capacity)
		if got := g.Counts(); !slices.Equal(got, []int{0, 0, 0, 0}) || g.Reads() != 0 {
			t.Errorf("Counts() = %v, Reads() = %d", got, g.Reads())
		}
	}
}

func TestNilEngine(t *testing.T) { // R6, P22.2, P22.4: also of an engine that New did not make
	for _, g := range []*Engine{nil, {}} {
		for _, main := range []api.Ref{{}, ref("A.f()V"), ref("A.f(I)I"), ref("A.f(LA;)V")} {
			for _, args := range [][]int{nil, {1}, {1 << 40}} {
				if r, e := g.Run(main, args, 5); r != (api.Result{}) || e != api.ErrArg {
					t.Errorf("Run = %+v, %d", r, e)
				}
			}
		}
		if counts := g.Counts(); len(counts) != 0 {
			t.Errorf("Counts() = %v", counts)
		}
		if reads := g.Reads(); reads != 0 {
			t.Errorf("Reads() = %d", reads)
		}
	}
}

// TestNoPanic: a linker without a world is told of nowhere, but no call panics for it.
func TestNoPanic(t *testing.T) { // P0.1
	g, e := New(&link.Linker{}, 1)
	if e != api.OK {
		return
	}
	if r, e := g.Run(ref("Object.id()I"), nil, 5); e == api.OK && r.Thrown == api.OK {
		t.Errorf("Run = %+v", r)
	}
}

// mainClasses have methods of each kind that a main may be, and may not be.
func mainClasses(t testing.TB) []api.Class {
	five := "iconst 5, ireturn"
	return []api.Class{
		class("A", "Object",
			method(t, "f()I", static, five), method(t, "hidden()I", api.Private|api.Static, five), method(t, "plain()I", api.Static, five), method(t, "kept()I", api.Protected|api.Static, five),
			method(t, "m()I", normal, five), method(t, "<init>()V", normal, "return"), method(t, "add(II)I", static, "iload 0, iload 1, iadd, ireturn"),
			method(t, "one(I)I", static, "iload 0, ireturn"), method(t, "of(LA;)I", static, five), method(t, "of([I)I", static, five), method(t, "of(ILA;I)I", static, five)),
		class("B", "A"),
		class("q/C", "A"),
		flagged(class("q/Shut", "Object", method(t, "f()I", 8, five)), api.Super),
		iface("I", method(t, "f()I", static, five), method(t, "hidden()I", api.Private|api.Static, five), method(t, "d()I", normal, five), method(t, "a()I", abstract, "")),
		of(class("N", "Object"), "I"),
	}
}

func TestWhatMainMayBe(t *testing.T) { // P22.2: what is invoked is seen from the class that main names
	for _, capacity := range capacities {
		s := newSubject(t, linkerOf(t, mainClasses(t)...), capacity)
		for text, want := range map[string]string{
			"A.f()I":       "5 spent 2",
			"B.f()I":       "5 spent 2",
			"q/C.f()I":     "5 spent 2",
			"A.hidden()I":  "5 spent 2",
			"B.hidden()I":  "IllegalAccess spent 0",
			"A.plain()I":   "5 spent 2",
			"B.plain()I":   "5 spent 2",
			"q/C.plain()I": "IllegalAccess spent 0",
			"q/C.kept()I":  "5 spent 2",
			"q/Shut.f()I":  "5 spent 2",
			"I:f()I":       "5 spent 2",
			"I:hidden()I":  "5 spent 2",
			"I.f()I":       "Incompatible spent 0",
			"A:f()I":       "Incompatible spent 0",
			"N.f()I":       "NoSuchMethod spent 0",
			"A.m()I":       "Incompatible spent 0",
			"I:d()I":       "Incompatible spent 0",
			"I:a()I":       "Incompatible spent 0",
			"Object.id()I": "Incompatible spent 0",
			"A.none()I":    "NoSuchMethod spent 0",
			"A.f()V":       "NoSuchMethod spent 0",
			"A.<init>()V":  "Malformed spent 0",
			"No.<init>()V": "Malformed spent 0",
			"no/Such.f()I": "NoClassDef spent 0",
			"no/Such:f()I": "NoClassDef spent 0",
			// Of an array type Object is the class that invokes.
			"[I.f()I":         "NoSuchMethod spent 0",
			"[LA;.f()I":       "NoSuchMethod spent 0",
			"[LA;.id()I":      "Incompatible spent 0",
			"[LA;:f()I":       "Incompatible spent 0",
			"[Lq/Shut;.id()I": "IllegalAccess spent 0",
			"[Lno/Such;.f()I": "NoClassDef spent 0",
		} {
			s.says(t, text, nil, plenty, want)
			// What is thrown ahead of the first instruction is thrown whatever the fuel.
			if strings.HasSuffix(want, " spent 2") {
				want = "FuelSpent spent 0"
			}
			s.says(t, text, nil, 0, want)
			s.says(t, text, nil, -1, want)
		}
		s.counted(t, 0, 0, 0, 0)
	}
}

func TestMainIsNotSound(t *testing.T) { // P22.2: ErrForm, also where the arguments are wrong
	s := newSubject(t, linkerOf(t, mainClasses(t)...), 1)
	for _, main := range []api.Ref{
		{}, {Iface: true}, ref("1.f()I"), ref("A.1()I"), ref("A.f"), ref("A.f()"), ref("A.f()II"), ref("A.f(V)V"), ref("LA;.f()I"), ref("A/.f()I"), ref(".f()I"), ref("A.()I"), ref("A.<clinit>()V"), ref("[.f()I"),
		ref("A.f(" + strings.Repeat("I", 21) + ")I"), ref("A.f()" + strings.Repeat("[", 256) + "I"), ref(strings.Repeat("[", 256) + "I.f()I"), ref(strings.Repeat("A", 61) + ".f()I"), ref("A.f(" + strings.Repeat("[", 2000) + "I)I"),
	} {
		for _, args := range [][]int{nil, {5}, {1 << 31}, make([]int, 21)} {
			for _, fuel := range []int{plenty, 0, -1} {
				s.refuses(t, main, args, fuel, api.ErrForm)
			}
		}
	}
}

func TestArgs(t *testing.T) { // P22.2: ErrArg, as many as the descriptor has, and ints alone
	s := newSubject(t, linkerOf(t, mainClasses(t)...), 1)
	for _, c := range []struct {
		text string
		args []int
	}{
		{"A.f()I", []int{0}}, {"A.f()I", []int{1, 2}}, {"A.one(I)I", nil}, {"A.one(I)I", []int{}}, {"A.one(I)I", []int{1, 2}}, {"A.add(II)I", []int{1}}, {"A.add(II)I", []int{1, 2, 3}}, {"A.add(II)I", nil},
		{"A.one(I)I", []int{1 << 31}}, {"A.one(I)I", []int{-1<<31 - 1}}, {"A.one(I)I", []int{least}}, {"A.one(I)I", []int{greatest}}, {"A.one(I)I", []int{1 << 32}}, {"A.add(II)I", []int{1, 1 << 31}}, {"A.add(II)I", []int{-1<<31 - 1, 1}},
		{"A.of(LA;)I", []int{0}}, {"A.of(LA;)I", nil}, {"A.of([I)I", []int{0}}, {"A.of(ILA;I)I", []int{1, 0, 1}}, {"A.of(ILA;I)I", []int{1, 1}},
		// Ahead of what a run throws.
		{"no/Such.f(I)I", nil}, {"no/Such.f(LA;)I", []int{0}}, {"A.none(I)I", []int{1 << 31}}, {"A.<init>(I)V", nil}, {"[I.f(Lno/Such;)V", []int{0}},
	} {
		for _, fuel := range []int{plenty, 0, least} {
			s.refuses(t, ref(c.text), c.args, fuel, api.ErrArg)
		}
	}
	for _, n := range []int{leastInt, leastInt + 1, -1, 0, 1, greatestInt - 1, greatestInt} {
		s.says(t, "A.one(I)I", []int{n}, plenty, fmt.Sprint(n, " spent 2"))
	}
	s.says(t, "A.add(II)I", []int{leastInt, greatestInt}, plenty, "-1 spent 4")
	s.says(t, "A.f()I", []int{}, plenty, "5 spent 2")
}

func TestArgsAreTheFirstLocals(t *testing.T) { // P22.2: in order, and the other locals are the int 0
	var lines []string
	for n := range 22 {
		lines = append(lines, fmt.Sprint("iload ", n, ", print"))
	}
	desc := "(" + strings.Repeat("I", 20) + ")V"
	s := newSubject(t, linkerOf(t, class("A", "Object", sized(method(t, "f"+desc, static, strings.Join(lines, ", ")+", return"), 22, 1))), 0)
	var args []int
	want := ""
	for n := range 20 {
		args = append(args, 100-n)
		want += fmt.Sprint(100-n, " ")
	}
	s.says(t, "A.f"+desc, args, plenty, want+"0 0 returned spent 45")
}

func TestFuel(t *testing.T) { // P22.2: below 0 it is 0, and above MaxFuel it is MaxFuel
	s := newSubject(t, linkerOf(t, class("A", "Object",
		method(t, "round()V", static, "goto 0"), method(t, "four(I)I", static, "iload 0, iconst 1, iadd, ireturn"),
		method(t, "count(I)I", static, "iload 0, ifeq 6, iload 0, iconst -1, iadd, istore 0, iload 0, ifne 2, iload 0, ireturn"))), 1)
	for _, c := range []struct{ fuel, spent int }{{least, 0}, {-1, 0}, {0, 0}, {1, 1}, {50, 50}, {99999, 99999}, {100000, 100000}, {100001, 100000}, {1 << 32, 100000}, {greatest, 100000}} {
		s.says(t, "A.round()V", nil, c.fuel, fmt.Sprint("FuelSpent spent ", c.spent))
	}
	for fuel := range 4 {
		s.says(t, "A.four(I)I", []int{5}, fuel, fmt.Sprint("FuelSpent spent ", fuel))
	}
	for _, fuel := range []int{4, 5, 100000, 100001, greatest} {
		s.says(t, "A.four(I)I", []int{5}, fuel, "6 spent 4")
	}
	// 16666 times round takes 2 + 6 * 16666 + 2 instructions, which is MaxFuel.
	s.says(t, "A.count(I)I", []int{16666}, 100000, "0 spent 100000")
	s.says(t, "A.count(I)I", []int{16666}, greatest, "0 spent 100000")
	s.says(t, "A.count(I)I", []int{16666}, 99999, "FuelSpent spent 99999")
	s.says(t, "A.count(I)I", []int{16667}, greatest, "FuelSpent spent 100000")
}

func TestNoInstruction(t *testing.T) { // P22.2: a method that ends without a return; ahead of fuel that is spent
	s := newSubject(t, linkerOf(t, class("A", "Object",
		method(t, "f()V", static, "iconst 1"), method(t, "g()V", static, "null, pop"), method(t, "over()V", static, "goto 2, return, iconst 1"),
		method(t, "calls()V", static, "invokestatic A.f()V, return"), method(t, "last()V", static, "goto 2, return, goto 1"))), 1)
	s.says(t, "A.f()V", nil, plenty, "Malformed spent 1")
	s.says(t, "A.f()V", nil, 1, "Malformed spent 1")
	s.says(t, "A.f()V", nil, 0, "FuelSpent spent 0")
	s.says(t, "A.g()V", nil, 2, "Malformed spent 2")
	s.says(t, "A.over()V", nil, 2, "Malformed spent 2")
	s.says(t, "A.calls()V", nil, 2, "Malformed spent 2")
	s.says(t, "A.calls()V", nil, 1, "FuelSpent spent 1")
	s.says(t, "A.last()V", nil, 3, "returned spent 3")
	s.says(t, "A.last()V", nil, 2, "FuelSpent spent 2")
	// No class arrives with a jump beyond the last instruction.
	if _, e := worldOf(t).Define(class("B", "Object", method(t, "f()V", static, "goto 1"))); e != api.ErrForm {
		t.Errorf("Define = %d", e)
	}
}

func TestExamples(t *testing.T) { // P22.2: the chapter's examples 1 to 5
	for _, capacity := range capacities {
		s := newSubject(t, linkerOf(t, class("A", "Object",
			method(t, "f(I)I", static, "iload 0, iconst 1, iadd, ireturn"), method(t, "round()V", static, "goto 0"), method(t, "self()V", static, "invokestatic A.self()V, return"),
			method(t, "by0()V", static, "iconst 1, iconst 0, idiv"), method(t, "len()V", static, "null, arraylength"), method(t, "int()V", static, "iconst 0, arraylength"),
			method(t, "id7()I", static, "new A, invokevirtual A.id()I, ireturn"))), capacity)
		s.says(t, "A.f(I)I", []int{5}, 10, "6 spent 4")
		s.says(t, "A.f(I)I", []int{5}, 3, "FuelSpent spent 3")
		s.says(t, "A.f(I)I", []int{2147483647}, 10, "-2147483648 spent 4")
		s.says(t, "A.round()V", nil, 77, "FuelSpent spent 77")
		s.says(t, "A.self()V", nil, 100, "FuelSpent spent 100")
		s.says(t, "A.self()V", nil, 1000, "StackOverflow spent 307")
		s.says(t, "A.by0()V", nil, 10, "Arithmetic spent 3")
		s.says(t, "A.len()V", nil, 10, "NullPointer spent 2")
		s.says(t, "A.int()V", nil, 10, "Malformed spent 2")
		s.says(t, "A.id7()I", nil, 10, "7 spent 5")
		s.says(t, "no/Such.f()V", nil, 5, "NoClassDef spent 0")
		s.refuses(t, ref("A.f(I)I"), nil, 5, api.ErrArg)
	}
}

func TestExamplesOfTheWhole(t *testing.T) { // the document's examples 8 and 9
	s := newSubject(t, linkerOf(t, class("Main", "Object", method(t, "f()I", static, "new A, invokevirtual A.m()I, ireturn"))), 1)
	s.says(t, "Main.f()I", nil, 10, "NoClassDef spent 1")
	define(t, s.second.world, class("A", "Object", sized(method(t, "m()I", normal, "iconst 5, ireturn"), 1, 1)))
	s.says(t, "Main.f()I", nil, 10, "5 spent 5")
	s.says(t, "Main.f()I", nil, 4, "FuelSpent spent 4")
}
