package hier

import (
	"fmt"
	"math"
	"math/rand"
	"reflect"
	"strings"
	"testing"

	"arbiter/api"
	"arbiter/names"
	"arbiter/shapes"
)

// told is a world a second time: a bare list of classes, about which the chapter's words are said anew at each question.
type told struct{ classes []api.Class }

func newTold() *told {
	marker := api.Class{Super: "Object", Flags: 0x1 | 0x200 | 0x400}
	cloneable, serializable := marker, marker
	cloneable.Name, serializable.Name = "Cloneable", "Serializable"
	object := api.Class{Name: "Object", Flags: 0x1 | 0x20, Methods: []api.Method{
		{Name: "<init>", Desc: "()V", Flags: 0x1, Locals: 1, Code: []api.Inst{{Op: 38}}},
		{Name: "id", Desc: "()I", Flags: 0x1, Locals: 1, Stack: 1, Code: []api.Inst{{Op: 1, N: 7}, {Op: 36}}},
		{Name: "kin", Desc: "()LObject;", Flags: 0x4, Locals: 1, Stack: 1, Code: []api.Inst{{Op: 4}, {Op: 37}}},
	}}
	return &told{classes: []api.Class{object, cloneable, serializable}}
}

// named answers -1, if there is no such class.
func (t *told) named(name string) int {
	for id, c := range t.classes {
		if c.Name == name {
			return id
		}
	}
	return -1
}

func (t *told) isIface(id int) bool {
	return t.has(id) && t.classes[id].Flags&0x200 != 0
}

func (t *told) has(id int) bool {
	return id >= 0 && id < len(t.classes)
}

func onePackage(a, b api.Class) bool {
	return a.Loader == b.Loader && names.Package(a.Name) == names.Package(b.Name)
}

// hidden: neither Public nor of the run-time package of c.
func (t *told) hidden(c api.Class, id int) bool {
	return t.classes[id].Flags&0x1 == 0 && !onePackage(c, t.classes[id])
}

// refusals are the errors of P6.2 that hold, in the order of the document.
func (t *told) refusals(c api.Class) []api.Errno {
	var all []api.Errno
	refuse := func(holds bool, e api.Errno) {
		if holds {
			all = append(all, e)
		}
	}
	refuse(shapes.Check(c) != api.OK, api.ErrForm)
	refuse(len(t.classes) >= 300, api.ErrLarge)
	refuse(t.named(c.Name) >= 0, api.Linkage)
	super := t.named(c.Super)
	refuse(super < 0, api.NoClassDef)
	refuse(t.isIface(super) || c.Flags&0x200 != 0 && super > 0, api.Incompatible)
	refuse(super >= 0 && t.hidden(c, super), api.IllegalAccess)
	for _, name := range c.Ifaces {
		id := t.named(name)
		refuse(id < 0, api.NoClassDef)
		refuse(id >= 0 && !t.isIface(id), api.Incompatible)
		refuse(id >= 0 && t.hidden(c, id), api.IllegalAccess)
	}
	return all
}

func (t *told) define(c api.Class) (int, api.Errno) {
	if all := t.refusals(c); len(all) > 0 {
		return 0, all[0]
	}
	t.classes = append(t.classes, twin(c))
	return len(t.classes) - 1, api.OK
}

func (t *told) chain(id int) []int {
	if id == 0 {
		return []int{0}
	}
	return append([]int{id}, t.chain(t.named(t.classes[id].Super))...)
}

func (t *told) closure(id int) []int {
	var all []int
	if id != 0 {
		all = t.closure(t.named(t.classes[id].Super))
	}
	for _, name := range t.classes[id].Ifaces {
		all = append(all, t.closure(t.named(name))...)
		all = append(all, t.named(name))
	}
	return firsts(all)
}

// firsts leaves out each number that stood already.
func firsts(list []int) []int {
	var out []int
	seen := map[int]int{}
	for _, n := range list {
		if seen[n]++; seen[n] == 1 {
			out = append(out, n)
		}
	}
	return out
}

func (t *told) extends(a, b int) bool {
	if !t.has(a) || !t.has(b) {
		return false
	}
	for _, id := range append(t.chain(a), t.closure(a)...) {
		if id == b {
			return true
		}
	}
	return false
}

func (t *told) samePackage(a, b int) bool {
	return t.has(a) && t.has(b) && onePackage(t.classes[a], t.classes[b])
}

func (t *told) find(id int, name, desc string) (int, api.Errno) {
	if !t.has(id) {
		return 0, api.ErrRange
	}
	for at, m := range t.classes[id].Methods {
		if m.Name == name && m.Desc == desc {
			return at, api.OK
		}
	}
	return 0, api.ErrNone
}

// twin shares no list with a class; lists without elements become nil, so that classes that the document takes for the same are so for DeepEqual.
func twin(c api.Class) api.Class {
	out := c
	out.Ifaces, out.Methods = nil, nil
	for _, name := range c.Ifaces {
		out.Ifaces = append(out.Ifaces, strings.Clone(name))
	}
	for _, m := range c.Methods {
		out.Methods = append(out.Methods, methodTwin(m))
	}
	return out
}

func methodTwin(m api.Method) api.Method {
	out := m
	out.Code = nil
	for _, i := range m.Code {
		out.Code = append(out.Code, i)
	}
	return out
}

// show cuts what it shows, since classes may be long.
func show(things ...any) string {
	text := fmt.Sprint(things...)
	return text[:min(len(text), 300)]
}

// one answer: a result and its error.
type one[T any] struct {
	Answer T
	Err    api.Errno
}

func answerOf[T any](answer T, e api.Errno) one[T] {
	return one[T]{answer, e}
}

func listOf(list []int, e api.Errno) one[[]int] {
	return one[[]int]{append([]int(nil), list...), e}
}

func classOf(c api.Class, e api.Errno) one[api.Class] {
	return one[api.Class]{twin(c), e}
}

func methodOf(m api.Method, e api.Errno) one[api.Method] {
	return one[api.Method]{methodTwin(m), e}
}

// facts is all that may be asked about one number.
type facts struct {
	Class                                            one[api.Class]
	ByName, Super, Depth                             one[int]
	Chain, Closure                                   one[[]int]
	IsIface                                          bool
	ExtendsUp, ExtendsDown, SamePackage, PackageBack []bool
	Find                                             []one[int]
	Method                                           []one[api.Method]
}

// askedNames are asked of each class: those of its methods, and others.
func askedNames(c api.Class) [][2]string {
	asked := [][2]string{{"", ""}, {"m", ""}, {"", "()I"}, {"m", "()I"}, {"m", "()V"}, {"k", "()I"}, {"m()I", ""}, {"()I", "m"}, {"id", "()I"}, {"<init>", "()V"}, {"\xff", "\x00"}}
	for _, m := range c.Methods {
		asked = append(asked, [2]string{m.Name, m.Desc}, [2]string{m.Desc, m.Name}, [2]string{m.Name, m.Desc + "I"}, [2]string{m.Name + "x", m.Desc})
	}
	return asked
}

var oddNumbers = []int{-1, math.MinInt, math.MaxInt, -2, 300, 301, 1 << 32, -1 << 32}

// numbersAround are all numbers of classes and some that are none.
func numbersAround(count int) []int {
	out := append([]int{count, count + 1}, oddNumbers...)
	for id := range count {
		out = append(out, id)
	}
	return out
}

// factsOf asks a world; others are the numbers against which id is held.
func factsOf(w *World, id int, others []int, name string, asked [][2]string) facts {
	f := facts{
		Class: classOf(w.Class(id)), ByName: answerOf(w.ByName(name)), Super: answerOf(w.Super(id)), Depth: answerOf(w.Depth(id)),
		Chain: listOf(w.Chain(id)), Closure: listOf(w.Closure(id)), IsIface: w.IsIface(id),
	}
	for _, other := range others {
		f.ExtendsUp = append(f.ExtendsUp, w.Extends(id, other))
		f.ExtendsDown = append(f.ExtendsDown, w.Extends(other, id))
		f.SamePackage = append(f.SamePackage, w.SamePackage(id, other))
		f.PackageBack = append(f.PackageBack, w.SamePackage(other, id))
	}
	for _, pair := range asked {
		f.Find = append(f.Find, answerOf(w.Find(id, pair[0], pair[1])))
	}
	for _, place := range append([]int{0, 1, 2, 3, 39, 40}, oddNumbers...) {
		f.Method = append(f.Method, methodOf(w.Method(api.MethodID{Class: id, Index: place})))
	}
	return f
}

// factsTold says the same by the chapter's words.
func (t *told) facts(id int, others []int, name string, asked [][2]string) facts {
	f := facts{ByName: one[int]{Err: api.ErrNone}, IsIface: t.isIface(id)}
	if at := t.named(name); at >= 0 {
		f.ByName = one[int]{Answer: at}
	}
	f.Class.Err, f.Super.Err, f.Depth.Err, f.Chain.Err, f.Closure.Err = api.ErrRange, api.ErrRange, api.ErrRange, api.ErrRange, api.ErrRange
	if t.has(id) {
		chain := t.chain(id)
		f.Class, f.Chain, f.Closure, f.Depth = one[api.Class]{Answer: t.classes[id]}, one[[]int]{Answer: chain}, one[[]int]{Answer: t.closure(id)}, one[int]{Answer: len(chain) - 1}
		f.Super = one[int]{Err: api.ErrNone}
		if id > 0 {
			f.Super = one[int]{Answer: chain[1]}
		}
	}
	for _, other := range others {
		f.ExtendsUp = append(f.ExtendsUp, t.extends(id, other))
		f.ExtendsDown = append(f.ExtendsDown, t.extends(other, id))
		f.SamePackage = append(f.SamePackage, t.samePackage(id, other))
		f.PackageBack = append(f.PackageBack, t.samePackage(other, id))
	}
	for _, pair := range asked {
		f.Find = append(f.Find, answerOf(t.find(id, pair[0], pair[1])))
	}
	for _, place := range append([]int{0, 1, 2, 3, 39, 40}, oddNumbers...) {
		if !t.has(id) || place < 0 || place >= len(t.classes[id].Methods) {
			f.Method = append(f.Method, one[api.Method]{Err: api.ErrRange})
			continue
		}
		f.Method = append(f.Method, one[api.Method]{Answer: t.classes[id].Methods[place]})
	}
	return f
}

// differs tells the first fact in which two differ, by its name; the empty text, if there is none.
func differs(got, want facts) string {
	g, w := reflect.ValueOf(got), reflect.ValueOf(want)
	for i := range g.NumField() {
		if !reflect.DeepEqual(g.Field(i).Interface(), w.Field(i).Interface()) {
			return show(g.Type().Field(i).Name, ": got ", g.Field(i).Interface(), ", want ", w.Field(i).Interface())
		}
	}
	return ""
}

// compare holds a world against its second telling, at the numbers given.
func compare(t *testing.T, w *World, second *told, ids []int) {
	t.Helper()
	if w.Len() != len(second.classes) {
		t.Fatalf("Len() = %d, want %d", w.Len(), len(second.classes))
	}
	for _, id := range ids {
		name, asked := "no/Such", askedNames(api.Class{})
		if second.has(id) {
			name, asked = second.classes[id].Name, askedNames(second.classes[id])
		}
		if text := differs(factsOf(w, id, ids, name, asked), second.facts(id, ids, name, asked)); text != "" {
			t.Fatalf("at %d of %d: %s", id, w.Len(), text)
		}
	}
}

// maker makes random classes that name one another.
type maker struct {
	*rand.Rand
	*told
}

func pick[T any](r *rand.Rand, from ...T) T {
	return from[r.Intn(len(from))]
}

func (m maker) name() string {
	return pick(m.Rand, "", "p/", "q/", "p/q/", "p/q/") + pick(m.Rand, "A", "B", "C", "D", "E", "F", "G", "H") + pick(m.Rand, "", "1", "2", "3", "$", "_")
}

// known is the name of a class that is there, most often one that wish takes.
func (m maker) known(wish func(id int) bool) string {
	id := 0
	for range 12 {
		id = m.Intn(len(m.classes))
		if wish(id) {
			break
		}
	}
	return m.classes[id].Name
}

func (m maker) method(iface bool) api.Method {
	out := api.Method{Name: pick(m.Rand, "m", "k", "n"), Desc: pick(m.Rand, "()I", "()V", "(I)I"), Flags: api.Public, Locals: 2, Stack: m.Intn(3), Code: []api.Inst{{Op: api.IConst, N: m.Intn(9)}, {Op: api.Pop}, {Op: api.Goto, N: 0}}}
	if iface && m.Intn(2) == 0 {
		out.Flags, out.Locals, out.Stack, out.Code = api.Public|api.AbstractFl, 0, 0, nil
	}
	return out
}

// class makes one that is sound and fits what is there, but for some that have a fault or two.
func (m maker) class() api.Class {
	c := api.Class{Name: m.name(), Super: "Object", Loader: pick(m.Rand, 0, 0, 1, 2), Flags: pick(m.Rand, 0, api.Public, api.Super, api.Public|api.Super)}
	iface := m.Intn(3) == 0
	if iface {
		c.Flags = pick(m.Rand, 0, api.Public, api.Public) | api.Interface | api.AbstractFl
	}
	seen := func(id int) bool { return !m.hidden(c, id) }
	if !iface && m.Intn(4) != 0 {
		c.Super = m.known(func(id int) bool { return !m.isIface(id) && seen(id) })
	}
	for range m.Intn(4) {
		c.Ifaces = append(c.Ifaces, m.known(func(id int) bool { return m.isIface(id) && seen(id) }))
	}
	for range m.Intn(4) {
		c.Methods = append(c.Methods, m.method(iface))
	}
	for m.Intn(5) == 0 {
		m.spoil(&c)
	}
	return c
}

func (m maker) spoil(c *api.Class) {
	anyone := func(int) bool { return true }
	switch m.Intn(8) {
	case 0:
		c.Name = m.known(anyone)
	case 1:
		c.Super = m.known(anyone)
	case 2:
		c.Super = m.name()
	case 3:
		c.Ifaces = append(c.Ifaces, m.known(anyone))
	case 4:
		c.Ifaces = append([]string{m.name()}, c.Ifaces...)
	case 5:
		c.Loader = pick(m.Rand, -1, 9, 10)
	case 6:
		c.Flags ^= pick(m.Rand, api.Interface, api.AbstractFl, api.Public, api.Private)
	case 7:
		c.Name = pick(m.Rand, "", "1", "p//A", "Object")
	}
}

// TestRandomWorlds holds worlds against their second telling, from class to class (P6.1 to P6.6, R5).
func TestRandomWorlds(t *testing.T) {
	counts := map[api.Errno]int{}
	for seed := range int64(40) {
		w, second := New(), newTold()
		m := maker{rand.New(rand.NewSource(seed)), second}
		for range 120 {
			c := m.class()
			want, wantErr := second.define(c)
			got, e := w.Define(c)
			if got != want || e != wantErr {
				t.Fatalf("seed %d: Define(%s) = %d, %d, want %d, %d", seed, show(c), got, e, want, wantErr)
			}
			counts[e]++
			last := w.Len() - 1
			compare(t, w, second, []int{last, m.Intn(w.Len()), w.Len()})
		}
		compare(t, w, second, numbersAround(w.Len()))
	}
	for _, e := range []api.Errno{api.OK, api.ErrForm, api.Linkage, api.NoClassDef, api.Incompatible, api.IllegalAccess} {
		if counts[e] < 20 {
			t.Errorf("the random classes met the answer %d only %d times", e, counts[e])
		}
	}
}

// TestRandomDeepClosures: worlds of interfaces that name up to six others, so that most are reached by several ways (P6.4).
func TestRandomDeepClosures(t *testing.T) {
	for seed := range int64(30) {
		w, second := New(), newTold()
		r := rand.New(rand.NewSource(seed))
		ifaces, classes := []string{"Cloneable", "Serializable"}, []string{"Object"}
		for n := range 40 {
			c := api.Class{Name: fmt.Sprint("I", n), Super: "Object", Flags: api.Public | api.Interface | api.AbstractFl}
			if r.Intn(2) == 0 {
				c.Name, c.Super, c.Flags = fmt.Sprint("C", n), pick(r, classes...), api.Public
				classes = append(classes, c.Name)
			}
			for _, at := range r.Perm(len(ifaces))[:r.Intn(min(len(ifaces), 6)+1)] {
				c.Ifaces = append(c.Ifaces, ifaces[at])
			}
			if c.Flags&api.Interface != 0 {
				ifaces = append(ifaces, c.Name)
			}
			want, wantErr := second.define(c)
			if got, e := w.Define(c); got != want || e != wantErr || e != api.OK {
				t.Fatalf("seed %d: Define(%s) = %d, %d, want %d, %d", seed, show(c), got, e, want, wantErr)
			}
		}
		compare(t, w, second, numbersAround(w.Len()))
	}
}
