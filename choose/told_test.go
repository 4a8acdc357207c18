package choose

import (
	"fmt"
	"math/rand"
	"regexp"
	"slices"
	"strings"
	"testing"

	"arbiter/api"
	"arbiter/hier"
)

// told is a world a second time: a bare list of classes, about which the chapters' words are said anew.
type told struct {
	classes  []api.Class
	closures [][]int
	chains   [][]int
}

func firstClasses() []api.Class {
	object := api.Class{Name: "Object", Flags: api.Public | api.Super, Methods: []api.Method{{Name: "<init>", Desc: "()V", Flags: api.Public}, {Name: "id", Desc: "()I", Flags: api.Public}, {Name: "kin", Desc: "()LObject;", Flags: api.Protected}}}
	return list(object, iface("Cloneable"), iface("Serializable"))
}

// newTold tells chains and closures in the order of the numbers, since what a class names has arrived ahead of it.
func newTold(classes []api.Class) told {
	w := told{classes: classes}
	for id, c := range classes {
		var mine []int
		chain := []int{id}
		if id > 0 {
			mine = append(mine, w.closures[w.named(c.Super)]...)
			chain = append(chain, w.chains[w.named(c.Super)]...)
		}
		for _, name := range c.Ifaces {
			for _, above := range append(slices.Clone(w.closures[w.named(name)]), w.named(name)) {
				if !slices.Contains(mine, above) {
					mine = append(mine, above)
				}
			}
		}
		w.closures = append(w.closures, mine)
		w.chains = append(w.chains, chain)
	}
	return w
}

// named answers -1, if there is no such class.
func (w told) named(name string) int {
	return slices.IndexFunc(w.classes, func(c api.Class) bool { return c.Name == name })
}

func (w told) isNone(id int) bool {
	return id < 0 || id >= len(w.classes)
}

func (w told) isNoMethod(m api.MethodID) bool {
	return w.isNone(m.Class) || m.Index < 0 || m.Index >= len(w.classes[m.Class].Methods)
}

func (w told) isIface(id int) bool {
	return w.classes[id].Flags&api.Interface != 0
}

func (w told) at(m api.MethodID) api.Method {
	return w.classes[m.Class].Methods[m.Index]
}

func (w told) has(m api.MethodID, flag int) bool {
	return w.at(m).Flags&flag != 0
}

func (w told) extends(a, b int) bool {
	return slices.Contains(w.chains[a], b) || slices.Contains(w.closures[a], b)
}

func (w told) together(a, b int) bool {
	pack := func(id int) string {
		words := strings.Split(w.classes[id].Name, "/")
		return fmt.Sprint(w.classes[id].Loader, words[:len(words)-1])
	}
	return pack(a) == pack(b)
}

const (
	partForm = `[a-zA-Z_$][a-zA-Z_$0-9]*`
	nameForm = partForm + `(?:/` + partForm + `)*`
	typeForm = `\[*(?:I|L` + nameForm + `;)`
)

var (
	classPattern  = regexp.MustCompile(`\A` + nameForm + `\z`)
	arrayPattern  = regexp.MustCompile(`\A(\[+)(?:I|L(` + nameForm + `);)\z`)
	memberPattern = regexp.MustCompile(`\A(?:` + partForm + `|<init>)\z`)
	descPattern   = regexp.MustCompile(`\A\((?:` + typeForm + `)*\)(?:V|` + typeForm + `)\z`)
)

// readReference says what these tests' texts are, which stay far below the limits but for MaxDims.
func readReference(text string) (api.Type, bool) {
	if classPattern.MatchString(text) {
		return api.Type{Name: text}, true
	}
	if cut := arrayPattern.FindStringSubmatch(text); cut != nil {
		return api.Type{Dims: len(cut[1]), Name: cut[2]}, len(cut[1]) <= 255
	}
	return api.Type{}, false
}

func isSound(r api.Ref) bool {
	_, ok := readReference(r.Class)
	return ok && memberPattern.MatchString(r.Name) && descPattern.MatchString(r.Desc)
}

func (w told) loaded(t api.Type) api.Errno {
	switch {
	case t.Dims < 0 || t.Dims > 255 || t.Name != "" && !classPattern.MatchString(t.Name):
		return api.ErrForm
	case t.Name != "" && w.named(t.Name) < 0:
		return api.NoClassDef
	}
	return api.OK
}

func (w told) holder(t api.Type) int {
	if t.Dims > 0 {
		return 0
	}
	return w.named(t.Name)
}

// below has the four rules in the chapter's order.
func (w told) below(s, t api.Type) bool {
	number := api.Type{}
	switch {
	case s == number || t == number:
		return s == t
	case s.Dims == 0:
		return t.Dims == 0 && w.extends(w.named(s.Name), w.named(t.Name))
	case t.Dims == 0:
		return t.Name == "Object" || t.Name == "Cloneable" || t.Name == "Serializable"
	}
	s.Dims--
	t.Dims--
	return s == number && t == number || s != number && t != number && w.below(s, t)
}

// own answers the methods of a class, of this Name and Desc, that have all flags of the one kind and none of the other: one or none.
func (w told) own(id int, name, desc string, with, without int) []api.MethodID {
	var out []api.MethodID
	for index, m := range w.classes[id].Methods {
		if m.Name == name && m.Desc == desc && m.Flags&with == with && m.Flags&without == 0 {
			out = append(out, api.MethodID{Class: id, Index: index})
		}
	}
	return out
}

func (w told) candidates(c int, name, desc string) []api.MethodID {
	var all []api.MethodID
	for _, id := range w.closures[c] {
		all = append(all, w.own(id, name, desc, 0, api.Private|api.Static)...)
	}
	return all
}

func (w told) one(c int, name, desc string) (api.MethodID, api.Errno) {
	var best []api.MethodID
	all := w.candidates(c, name, desc)
	for _, i := range all {
		lower := slices.ContainsFunc(all, func(j api.MethodID) bool { return j != i && w.extends(j.Class, i.Class) })
		if !lower && !w.has(i, api.AbstractFl) {
			best = append(best, i)
		}
	}
	switch len(best) {
	case 0:
		return api.MethodID{}, api.Abstract
	case 1:
		return best[0], api.OK
	}
	return api.MethodID{}, api.Incompatible
}

func (w told) resolve(d int, r api.Ref) (api.MethodID, api.Errno) {
	if !isSound(r) {
		return api.MethodID{}, api.ErrForm
	}
	t, _ := readReference(r.Class)
	if e := w.loaded(t); e != api.OK {
		return api.MethodID{}, e
	}
	if c := w.named(t.Name); c >= 0 && w.classes[c].Flags&api.Public == 0 && !w.together(c, d) {
		return api.MethodID{}, api.IllegalAccess
	}
	c := w.holder(t)
	if r.Iface != w.isIface(c) {
		return api.MethodID{}, api.Incompatible
	}
	var found []api.MethodID
	if r.Iface {
		found = append(w.own(c, r.Name, r.Desc, 0, 0), w.own(0, r.Name, r.Desc, api.Public, api.Static)...)
	} else {
		for _, id := range w.chains[c] {
			found = append(found, w.own(id, r.Name, r.Desc, 0, 0)...)
		}
	}
	if m, e := w.one(c, r.Name, r.Desc); e == api.OK {
		found = append(found, m)
	}
	found = append(found, w.candidates(c, r.Name, r.Desc)...)
	switch {
	case len(found) == 0:
		return api.MethodID{}, api.NoSuchMethod
	case !w.isOpen(d, found[0], c):
		return api.MethodID{}, api.IllegalAccess
	}
	return found[0], api.OK
}

func (w told) isOpen(d int, m api.MethodID, named int) bool {
	switch {
	case w.has(m, api.Public):
		return true
	case w.has(m, api.Private):
		return m.Class == d
	case w.together(m.Class, d):
		return true
	case !w.has(m, api.Protected) || w.isIface(m.Class) || !w.extends(d, m.Class):
		return false
	}
	return w.has(m, api.Static) || w.extends(named, d) || w.extends(d, named)
}

func (w told) plain(c, a api.MethodID) bool {
	lower, upper := w.at(c), w.at(a)
	switch {
	case lower.Name != upper.Name || lower.Desc != upper.Desc || lower.Name == "<init>":
		return false
	case w.has(c, api.Static) || w.has(a, api.Static) || w.has(c, api.Private) || w.has(a, api.Private):
		return false
	case c.Class == a.Class || w.isIface(c.Class) || !w.extends(c.Class, a.Class):
		return false
	}
	return w.isIface(a.Class) || w.has(a, api.Public|api.Protected) || w.together(c.Class, a.Class)
}

// overrides goes from c to a by plain steps, each to a class further up the chain of c, or to a itself.
func (w told) overrides(c, a api.MethodID) bool {
	if c == a {
		return !w.has(a, api.Static)
	}
	if w.plain(c, a) {
		return true
	}
	m := w.at(c)
	for _, id := range w.chains[c.Class][1:] {
		for _, b := range w.own(id, m.Name, m.Desc, 0, 0) {
			if w.plain(c, b) && w.overrides(b, a) {
				return true
			}
		}
	}
	return false
}

func (w told) orAbstract(m api.MethodID) (api.MethodID, api.Errno) {
	if w.has(m, api.AbstractFl) {
		return api.MethodID{}, api.Abstract
	}
	return m, api.OK
}

func (w told) virtual(r int, m api.MethodID) (api.MethodID, api.Errno) {
	switch {
	case w.isNone(r) || w.isNoMethod(m):
		return api.MethodID{}, api.ErrRange
	case w.isIface(r):
		return api.MethodID{}, api.ErrArg
	case w.has(m, api.Static):
		return api.MethodID{}, api.Incompatible
	}
	for _, id := range w.chains[r] {
		for index := range w.classes[id].Methods {
			if c := (api.MethodID{Class: id, Index: index}); w.overrides(c, m) {
				return w.orAbstract(c)
			}
		}
	}
	return w.one(r, w.at(m).Name, w.at(m).Desc)
}

func (w told) iface(r int, m api.MethodID) (api.MethodID, api.Errno) {
	switch {
	case w.isNone(r) || w.isNoMethod(m):
		return api.MethodID{}, api.ErrRange
	case w.isIface(r):
		return api.MethodID{}, api.ErrArg
	case w.has(m, api.Static) || w.has(m, api.Private):
		return api.MethodID{}, api.Incompatible
	}
	for _, id := range w.chains[r] {
		for _, c := range w.own(id, w.at(m).Name, w.at(m).Desc, 0, api.Static) {
			if !w.has(c, api.Public) {
				return api.MethodID{}, api.IllegalAccess
			}
			return w.orAbstract(c)
		}
	}
	return w.one(r, w.at(m).Name, w.at(m).Desc)
}

func (w told) special(d int, r api.Ref, m api.MethodID) (api.MethodID, api.Errno) {
	if w.isNone(d) || w.isNoMethod(m) {
		return api.MethodID{}, api.ErrRange
	}
	if !isSound(r) {
		return api.MethodID{}, api.ErrForm
	}
	t, _ := readReference(r.Class)
	if e := w.loaded(t); e != api.OK {
		return api.MethodID{}, e
	}
	h, name, desc := w.holder(t), w.at(m).Name, w.at(m).Desc
	switch {
	case w.has(m, api.Static):
		return api.MethodID{}, api.Incompatible
	case name == "<init>" && m.Class == h:
		return m, api.OK
	case name == "<init>":
		return api.MethodID{}, api.NoSuchMethod
	}
	c := h
	if t.Dims == 0 && !r.Iface && !w.isIface(h) && h != d && w.extends(d, h) && w.classes[d].Flags&api.Super != 0 {
		c = w.named(w.classes[d].Super)
	}
	var found []api.MethodID
	if w.isIface(c) {
		found = append(w.own(c, name, desc, 0, api.Static), w.own(0, name, desc, api.Public, api.Static)...)
	} else {
		for _, id := range w.chains[c] {
			found = append(found, w.own(id, name, desc, 0, api.Static)...)
		}
	}
	if len(found) > 0 {
		return w.orAbstract(found[0])
	}
	return w.one(c, name, desc)
}

// call has the chapter's five parts, one behind the other.
func (w told) call(d, kind int, r api.Ref, recv api.Type) (api.MethodID, api.Errno) {
	none, isStatic := api.MethodID{}, kind == api.StaticInv
	if w.isNone(d) {
		return none, api.ErrRange
	}
	if !slices.Contains(allKinds, kind) {
		return none, api.ErrArg
	}
	if e := w.loaded(recv); e != api.OK && !isStatic {
		return none, e
	}
	if !isStatic && (recv == api.Type{} || recv.Dims == 0 && w.isIface(w.named(recv.Name))) {
		return none, api.ErrArg
	}
	if !isSound(r) {
		return none, api.ErrForm
	}
	if kind == api.Virtual && r.Iface || kind == api.Iface && !r.Iface || r.Name == "<init>" && kind != api.Special {
		return none, api.Malformed
	}
	m, e := w.resolve(d, r)
	if e != api.OK {
		return none, e
	}
	if isStatic != w.has(m, api.Static) || kind == api.Iface && w.has(m, api.Private) {
		return none, api.Incompatible
	}
	if isStatic {
		return m, api.OK
	}
	if t, _ := readReference(r.Class); !w.below(recv, t) {
		return none, api.Incompatible
	}
	switch kind {
	case api.Virtual:
		return w.virtual(w.holder(recv), m)
	case api.Iface:
		return w.iface(w.holder(recv), m)
	}
	return w.special(d, r, m)
}

// names are those of random methods; and one that none has, beside one that is not sound.
func names() [][2]string {
	return [][2]string{{"m", "()V"}, {"n", "()V"}, {"m", "(I)V"}, {"id", "()I"}, {"kin", "()LObject;"}, {"<init>", "()V"}, {"<init>", "(I)V"}, {"none", "()V"}, {"", ""}}
}

// texts are the references' texts of classes, and of arrays over them and over int.
func (w told) texts() []string {
	out := []string{"[I", "no/Such", "[Lno/Such;", "", "Lno/Such;"}
	for _, c := range w.classes {
		out = append(out, c.Name, c.Name, "[L"+c.Name+";")
	}
	return out
}

// receivers are types of all classes, arrays over them and over int, and such as are none.
func (w told) receivers() []api.Type {
	out := []api.Type{{}, {Dims: 1}, {Dims: 255}, {Dims: 256}, {Dims: -1, Name: "Object"}, {Name: "1"}, {Name: "no/Such"}, {Dims: 1, Name: "no/Such"}}
	for _, c := range w.classes {
		out = append(out, api.Type{Name: c.Name}, api.Type{Dims: 1, Name: c.Name}, api.Type{Dims: 2, Name: c.Name})
	}
	return out
}

// numbers are those of all classes, both edges and such as are none.
func (w told) numbers() []int {
	out := slices.Clone(oddNumbers)
	for id := range len(w.classes) + 1 {
		out = append(out, id)
	}
	return out
}

// methods are those of all classes, one beyond at both edges of each, and such as are none.
func (w told) methods() []api.MethodID {
	out := []api.MethodID{{Class: -1}, {Class: len(w.classes)}}
	for id, c := range w.classes {
		for index := range len(c.Methods) + 2 {
			out = append(out, api.MethodID{Class: id, Index: index - 1})
		}
	}
	return out
}

func pick[T any](r *rand.Rand, from ...T) T {
	return from[r.Intn(len(from))]
}

// invocation is what Call is asked, and with m what Special is asked.
type invocation struct {
	d, kind int
	ref     api.Ref
	recv    api.Type
	m       api.MethodID
}

// randomRef draws a reference that mostly names a class which has the method, of whatever flags.
func (w told) randomRef(r *rand.Rand, texts []string) api.Ref {
	text, q := pick(r, texts...), pick(r, names()...)
	if c := w.named(text); c >= 0 && r.Intn(4) > 0 {
		var all []api.Method
		for _, id := range append(slices.Clone(w.closures[c]), w.chains[c]...) {
			all = append(all, w.classes[id].Methods...)
		}
		m := pick(r, all...)
		q = [2]string{m.Name, m.Desc}
	}
	t, ok := readReference(text)
	isIface := ok && w.loaded(t) == api.OK && w.isIface(w.holder(t))
	return api.Ref{Iface: isIface != (r.Intn(20) == 0), Class: text, Name: q[0], Desc: q[1]}
}

// randomKind draws a kind that mostly fits a reference.
func randomKind(r *rand.Rand, ref api.Ref) int {
	fitting := []int{api.Virtual, api.Virtual, api.Special, api.StaticInv}
	if ref.Iface {
		fitting = []int{api.Iface, api.Iface, api.Special, api.StaticInv}
	}
	switch r.Intn(20) {
	case 0:
		return pick(r, oddKinds...)
	case 1, 2:
		return pick(r, allKinds...)
	}
	return pick(r, fitting...)
}

// randomReceiver draws a type that is mostly below the one that a reference names.
func (w told) randomReceiver(r *rand.Rand, ref api.Ref, receivers []api.Type) api.Type {
	recv := pick(r, receivers...)
	t, ok := readReference(ref.Class)
	if !ok || w.loaded(t) != api.OK {
		return recv
	}
	fits := func() bool {
		return w.loaded(recv) == api.OK && w.below(recv, t) && !w.isIface(w.holder(recv))
	}
	for tries := r.Intn(50); tries > 5 && !fits(); tries-- {
		recv = pick(r, receivers...)
	}
	return recv
}

// invocations are drawn such that many of them get as far as the selection.
func (w told) invocations(r *rand.Rand, count int) []invocation {
	var out []invocation
	methods, texts, receivers := w.methods(), w.texts(), w.receivers()
	for range count {
		i := invocation{d: r.Intn(len(w.classes)), ref: w.randomRef(r, texts), m: pick(r, methods...)}
		i.kind, i.recv = randomKind(r, i.ref), w.randomReceiver(r, i.ref, receivers)
		if m, e := w.resolve(i.d, i.ref); e == api.OK && r.Intn(3) > 0 {
			i.m = m
		}
		if r.Intn(20) == 0 {
			i.d = pick(r, w.numbers()...)
		}
		out = append(out, i)
	}
	return out
}

// compare holds all calls of the package at these questions against the second telling.
func compare(t *testing.T, w *hier.World, second told, ids []int, methods []api.MethodID, asked []invocation) {
	t.Helper()
	for _, id := range ids {
		for _, m := range methods {
			want, err := second.virtual(id, m)
			virtualIs(t, w, id, m, want, err)
			want, err = second.iface(id, m)
			interfaceIs(t, w, id, m, want, err)
		}
	}
	for _, i := range asked {
		want, err := second.special(i.d, i.ref, i.m)
		specialIs(t, w, i.d, i.ref, i.m, want, err)
		want, err = second.call(i.d, i.kind, i.ref, i.recv)
		callIs(t, w, i.d, i.kind, i.ref, i.recv, want, err)
	}
	if t.Failed() {
		t.FailNow()
	}
}

// randomMethods have few names, so that many meet, at places that turn.
func randomMethods(r *rand.Rand, inIface bool) []api.Method {
	all := []string{"m", "n", "m(I)V", "id()I", "kin()LObject;", "<init>", "<init>(I)V"}
	if inIface {
		all = all[:5]
	}
	r.Shuffle(len(all), func(a, b int) { all[a], all[b] = all[b], all[a] })
	var out []api.Method
	for _, name := range all[:r.Intn(5)] {
		flags := pick(r, api.Public, api.Public, api.Protected, 0, api.Private)
		if inIface {
			flags = pick(r, api.Public, api.Public, api.Public, api.Private)
		}
		switch r.Intn(5) {
		case 0:
			flags |= api.Static
		case 1:
			if flags != api.Private {
				flags |= api.AbstractFl
			}
		}
		if strings.HasPrefix(name, "<") {
			flags &^= api.Static | api.AbstractFl
		}
		out = append(out, method(name, flags))
	}
	return out
}

// randomClass names at most what is told; a world may refuse it, for what it names may be shut.
func randomClass(r *rand.Rand, n int, there []api.Class) api.Class {
	c := class(fmt.Sprint(pick(r, "", "p/", "p/", "q/"), "C", n), "Object")
	isIface := r.Intn(3) == 0
	switch {
	case isIface:
		c.Flags = api.Public | api.Interface | api.AbstractFl
	case r.Intn(3) == 0:
		c = old(c)
	}
	if r.Intn(8) == 0 {
		c = shut(c)
	}
	c.Loader = pick(r, 0, 0, 0, 0, 9)
	for range 4 {
		above := there[r.Intn(len(there))]
		switch {
		case above.Flags&api.Interface == 0 && !isIface:
			c.Super = above.Name
		case above.Flags&api.Interface != 0 && !slices.Contains(c.Ifaces, above.Name):
			c.Ifaces = append(c.Ifaces, above.Name)
		}
	}
	c.Methods = randomMethods(r, isIface)
	return c
}

// randomWorld is a world of so many classes, those that are always there among them, and the same told a second time.
func randomWorld(t *testing.T, seed int64, count int) (*hier.World, told) {
	t.Helper()
	w, classes := hier.New(), firstClasses()
	r := rand.New(rand.NewSource(seed))
	for n := 0; len(classes) < count; n++ {
		c := randomClass(r, n, classes)
		switch _, e := w.Define(c); e {
		case api.OK:
			classes = append(classes, c)
		case api.IllegalAccess:
		default:
			t.Fatalf("Define(%s): %d", show(c), e)
		}
	}
	return w, newTold(classes)
}

func TestRandomWorlds(t *testing.T) { // P12.1 to P12.4
	for seed := range int64(40) {
		w, second := randomWorld(t, seed, 20)
		r := rand.New(rand.NewSource(seed))
		compare(t, w, second, second.numbers(), second.methods(), second.invocations(r, 3000))
	}
}

// TestRandomWorldsHaveAllKinds: without these the random worlds would show little.
func TestRandomWorldsHaveAllKinds(t *testing.T) {
	counts := map[string]int{}
	count := func(call string, e api.Errno) {
		counts[fmt.Sprint(call, " ", e)]++
	}
	for seed := range int64(40) {
		_, second := randomWorld(t, seed, 20)
		for id := range second.classes {
			for _, m := range second.methods() {
				_, e := second.virtual(id, m)
				count("Virtual", e)
				_, e = second.iface(id, m)
				count("Interface", e)
			}
		}
		for _, i := range second.invocations(rand.New(rand.NewSource(seed)), 3000) {
			_, e := second.special(i.d, i.ref, i.m)
			count("Special", e)
			_, e = second.call(i.d, i.kind, i.ref, i.recv)
			count(fmt.Sprint("Call ", i.kind), e)
		}
	}
	for call, errors := range map[string][]api.Errno{
		"Virtual":   {api.OK, api.ErrRange, api.ErrArg, api.Incompatible, api.Abstract},
		"Interface": {api.OK, api.ErrRange, api.ErrArg, api.Incompatible, api.IllegalAccess, api.Abstract},
		"Special":   {api.OK, api.ErrRange, api.ErrForm, api.NoClassDef, api.Incompatible, api.NoSuchMethod, api.Abstract},
		"Call 0":    {api.ErrArg},
		"Call 1":    {api.OK, api.ErrRange, api.ErrArg, api.ErrForm, api.NoClassDef, api.Malformed, api.NoSuchMethod, api.IllegalAccess, api.Incompatible, api.Abstract},
		"Call 2":    {api.OK, api.ErrRange, api.ErrArg, api.ErrForm, api.NoClassDef, api.Malformed, api.NoSuchMethod, api.IllegalAccess, api.Incompatible, api.Abstract},
		"Call 3":    {api.OK, api.ErrRange, api.ErrArg, api.ErrForm, api.NoClassDef, api.NoSuchMethod, api.IllegalAccess, api.Incompatible, api.Abstract},
		"Call 4":    {api.OK, api.ErrRange, api.ErrForm, api.NoClassDef, api.Malformed, api.NoSuchMethod, api.IllegalAccess, api.Incompatible},
		"Call 5":    {api.ErrArg},
	} {
		for _, e := range errors {
			if n := counts[fmt.Sprint(call, " ", e)]; n < 100 {
				t.Errorf("%s answers %d but %d times", call, e, n)
			}
		}
	}
}

func TestFullWorld(t *testing.T) { // P12.1 to P12.4: as many classes as a world takes
	w, second := randomWorld(t, 77, api.MaxClasses)
	r := rand.New(rand.NewSource(77))
	if w.Len() != api.MaxClasses {
		t.Fatalf("%d classes", w.Len())
	}
	ids := append([]int{0, api.MaxClasses - 1}, oddNumbers...)
	for range 20 {
		ids = append(ids, r.Intn(api.MaxClasses))
	}
	compare(t, w, second, ids, second.methods(), second.invocations(r, 5000))
}

// TestLongChain: what stands at the top of a chain of nearly all classes of a full world is found from its end.
func TestLongChain(t *testing.T) { // P12.1 to P12.4, P0.1
	classes := list(im("I", abstract), cm("C0", "Object", normal))
	for n := 1; len(classes) < api.MaxClasses-4; n++ {
		classes = append(classes, cm(fmt.Sprint("C", n), fmt.Sprint("C", n-1), static))
	}
	last := classes[len(classes)-1].Name
	w := worldOf(t, append(classes, of(class("R", last), "I"))...)
	top := find(t, w, "C0.m()V")
	virtualIs(t, w, number(t, w, "R"), top, top, api.OK)
	interfaceIs(t, w, number(t, w, "R"), find(t, w, "I.m()V"), top, api.OK)
	special(t, w, "R", "C0.m()V", "C0.m()V", "C0.m()V", 0)
	call(t, w, "R", api.Virtual, "C0.m()V", "R", "C0.m()V", 0)
	call(t, w, "R", api.Iface, "I:m()V", "R", "C0.m()V", 0)
	call(t, w, "R", api.Special, "C0.m()V", "R", "C0.m()V", 0)
	call(t, w, "R", api.StaticInv, "R.m()V", "R", last+".m()V", 0)
}
