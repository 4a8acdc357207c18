package resolve

import (
	"fmt"
	"math/rand"
	"regexp"
	"slices"
	"strings"
	"testing"

	"arbiter/api"
	"arbiter/hier"
)

// told is a world a second time: a bare list of classes, about which the chapters' words are said anew.
type told struct {
	classes  []api.Class
	closures [][]int
}

func firstClasses() []api.Class {
	object := api.Class{Name: "Object", Flags: api.Public | api.Super, Methods: []api.Method{{Name: "<init>", Desc: "()V", Flags: api.Public}, {Name: "id", Desc: "()I", Flags: api.Public}, {Name: "kin", Desc: "()LObject;", Flags: api.Protected}}}
	return list(object, iface("Cloneable"), iface("Serializable"))
}

// named answers -1, if there is no such class.
func (w told) named(name string) int {
	return slices.IndexFunc(w.classes, func(c api.Class) bool { return c.Name == name })
}

func (w told) isNone(id int) bool {
	return id < 0 || id >= len(w.classes)
}

func (w told) isIface(id int) bool {
	return w.classes[id].Flags&api.Interface != 0
}

func (w told) chain(id int) []int {
	if id == 0 {
		return []int{0}
	}
	return append([]int{id}, w.chain(w.named(w.classes[id].Super))...)
}

// newTold tells the closures in the order of the numbers, since what a class names has arrived ahead of it.
func newTold(classes []api.Class) told {
	w := told{classes: classes}
	for id, c := range classes {
		var mine []int
		if id > 0 {
			mine = append(mine, w.closures[w.named(c.Super)]...)
		}
		for _, name := range c.Ifaces {
			for _, above := range append(slices.Clone(w.closures[w.named(name)]), w.named(name)) {
				if !slices.Contains(mine, above) {
					mine = append(mine, above)
				}
			}
		}
		w.closures = append(w.closures, mine)
	}
	return w
}

func (w told) extends(a, b int) bool {
	return slices.Contains(w.chain(a), b) || slices.Contains(w.closures[a], b)
}

func (w told) together(a, b int) bool {
	pack := func(id int) string {
		words := strings.Split(w.classes[id].Name, "/")
		return fmt.Sprint(w.classes[id].Loader, words[:len(words)-1])
	}
	return pack(a) == pack(b)
}

const (
	partForm = `[a-zA-Z_$][a-zA-Z_$0-9]*`
	nameForm = partForm + `(?:/` + partForm + `)*`
	typeForm = `\[*(?:I|L` + nameForm + `;)`
)

var (
	classPattern  = regexp.MustCompile(`\A` + nameForm + `\z`)
	arrayPattern  = regexp.MustCompile(`\A(\[+)(?:I|L(` + nameForm + `);)\z`)
	memberPattern = regexp.MustCompile(`\A(?:` + partForm + `|<init>)\z`)
	descPattern   = regexp.MustCompile(`\A\(((?:` + typeForm + `)*)\)(V|` + typeForm + `)\z`)
	typePattern   = regexp.MustCompile(typeForm)
)

func readReference(text string) (api.Type, bool) {
	if classPattern.MatchString(text) {
		return api.Type{Name: text}, len(text) <= 60
	}
	if cut := arrayPattern.FindStringSubmatch(text); cut != nil {
		return api.Type{Dims: len(cut[1]), Name: cut[2]}, len(cut[1]) <= 255 && len(cut[2]) <= 60
	}
	return api.Type{}, false
}

func isDesc(text string) bool {
	cut := descPattern.FindStringSubmatch(text)
	if cut == nil || len(text) > 2000 {
		return false
	}
	args := typePattern.FindAllString(cut[1], -1)
	for _, kind := range append(args, cut[2]) {
		element := strings.TrimLeft(kind, "[")
		if len(kind)-len(element) > 255 || len(element) > 62 {
			return false
		}
	}
	return len(args) <= 20
}

func isSound(r api.Ref) bool {
	_, ok := readReference(r.Class)
	return ok && memberPattern.MatchString(r.Name) && len(r.Name) <= 60 && isDesc(r.Desc)
}

func (w told) class(d int, text string) (api.Type, api.Errno) {
	if w.isNone(d) {
		return api.Type{}, api.ErrRange
	}
	kind, ok := readReference(text)
	if !ok {
		return api.Type{}, api.ErrText
	}
	if kind.Name == "" {
		return kind, api.OK
	}
	c := w.named(kind.Name)
	if c < 0 {
		return api.Type{}, api.NoClassDef
	}
	if w.classes[c].Flags&api.Public == 0 && !w.together(c, d) {
		return api.Type{}, api.IllegalAccess
	}
	return kind, api.OK
}

// own answers the methods of a class, of this Name and Desc, that have all flags of the one kind and none of the other: one or none.
func (w told) own(id int, name, desc string, with, without int) []api.MethodID {
	var out []api.MethodID
	for index, m := range w.classes[id].Methods {
		if m.Name == name && m.Desc == desc && m.Flags&with == with && m.Flags&without == 0 {
			out = append(out, api.MethodID{Class: id, Index: index})
		}
	}
	return out
}

// most answers what stands first in each road through the interfaces: One and then Some.
func (w told) most(c int, name, desc string) []api.MethodID {
	var all, best []api.MethodID
	for _, id := range w.closures[c] {
		all = append(all, w.own(id, name, desc, 0, api.Private|api.Static)...)
	}
	for _, i := range all {
		lower := slices.ContainsFunc(all, func(j api.MethodID) bool { return j != i && w.extends(j.Class, i.Class) })
		if !lower && w.classes[i.Class].Methods[i.Index].Flags&api.AbstractFl == 0 {
			best = append(best, i)
		}
	}
	if len(best) == 1 {
		return append(best, all...)
	}
	return all
}

func firstOf(found []api.MethodID) (api.MethodID, api.Errno) {
	if len(found) == 0 {
		return api.MethodID{}, api.NoSuchMethod
	}
	return found[0], api.OK
}

func (w told) lookup(c int, name, desc string) (api.MethodID, api.Errno) {
	if w.isNone(c) {
		return api.MethodID{}, api.ErrRange
	}
	if w.isIface(c) {
		return api.MethodID{}, api.Incompatible
	}
	var found []api.MethodID
	for _, id := range w.chain(c) {
		found = append(found, w.own(id, name, desc, 0, 0)...)
	}
	return firstOf(append(found, w.most(c, name, desc)...))
}

func (w told) lookupIface(c int, name, desc string) (api.MethodID, api.Errno) {
	if w.isNone(c) {
		return api.MethodID{}, api.ErrRange
	}
	if !w.isIface(c) {
		return api.MethodID{}, api.Incompatible
	}
	found := w.own(c, name, desc, 0, 0)
	found = append(found, w.own(0, name, desc, api.Public, api.Static)...)
	return firstOf(append(found, w.most(c, name, desc)...))
}

func (w told) isOpen(d int, m api.MethodID, named int) bool {
	f := w.classes[m.Class].Methods[m.Index].Flags
	if f&api.Public != 0 {
		return true
	}
	if f&api.Private != 0 {
		return m.Class == d
	}
	if w.together(m.Class, d) {
		return true
	}
	if f&api.Protected == 0 || w.isIface(m.Class) || !w.extends(d, m.Class) {
		return false
	}
	return f&api.Static != 0 || w.extends(named, d) || w.extends(d, named)
}

func (w told) method(d int, r api.Ref) (api.MethodID, api.Errno) {
	if w.isNone(d) {
		return api.MethodID{}, api.ErrRange
	}
	if !isSound(r) {
		return api.MethodID{}, api.ErrForm
	}
	kind, e := w.class(d, r.Class)
	if e != api.OK {
		return api.MethodID{}, e
	}
	if r.Iface && kind.Dims > 0 {
		return api.MethodID{}, api.Incompatible
	}
	c, look := 0, w.lookup
	if kind.Dims == 0 {
		c = w.named(kind.Name)
	}
	if r.Iface {
		look = w.lookupIface
	}
	m, e := look(c, r.Name, r.Desc)
	if e == api.OK && !w.isOpen(d, m, c) {
		return api.MethodID{}, api.IllegalAccess
	}
	return m, e
}

// questions are the names and descriptors that random methods have, and some that none has.
func questions() [][2]string {
	return [][2]string{{"m", "()V"}, {"n", "()V"}, {"m", "(I)V"}, {"id", "()I"}, {"kin", "()LObject;"}, {"<init>", "()V"}, {"none", "()V"}, {"", ""}}
}

// texts are the references' texts of classes, and of arrays over them and over int.
func (w told) texts() []string {
	out := []string{"[I", "no/Such", "[Lno/Such;", "", "[", "Lno/Such;"}
	for _, c := range w.classes {
		out = append(out, c.Name, "[L"+c.Name+";")
	}
	return out
}

// numbers are those of all classes, both edges and such as are none.
func (w told) numbers() []int {
	out := slices.Clone(oddNumbers)
	for id := range len(w.classes) + 1 {
		out = append(out, id)
	}
	return out
}

// refsTo are the references of both kinds by these texts to the methods that are asked for.
func refsTo(texts ...string) []api.Ref {
	var out []api.Ref
	for _, text := range texts {
		for _, q := range questions() {
			out = append(out, api.Ref{Class: text, Name: q[0], Desc: q[1]}, api.Ref{Iface: true, Class: text, Name: q[0], Desc: q[1]})
		}
	}
	return out
}

// compare holds all calls of the package at these questions against the second telling.
func compare(t *testing.T, w *hier.World, second told, ids []int, texts []string, refs []api.Ref) {
	t.Helper()
	for _, id := range ids {
		for _, text := range texts {
			want, err := second.class(id, text)
			classIs(t, w, id, text, want, err)
		}
		for _, q := range questions() {
			want, err := second.lookup(id, q[0], q[1])
			lookupIs(t, w, id, q[0], q[1], want, err)
			want, err = second.lookupIface(id, q[0], q[1])
			lookupIfaceIs(t, w, id, q[0], q[1], want, err)
		}
		for _, r := range refs {
			want, err := second.method(id, r)
			methodIs(t, w, id, r, want, err)
		}
		if t.Failed() {
			t.FailNow()
		}
	}
}

func pick[T any](r *rand.Rand, from ...T) T {
	return from[r.Intn(len(from))]
}

// randomMethods have few names, so that many meet, at places that turn.
func randomMethods(r *rand.Rand, inIface bool) []api.Method {
	names := []string{"m", "n", "m(I)V", "id()I", "kin()LObject;"}
	r.Shuffle(len(names), func(a, b int) { names[a], names[b] = names[b], names[a] })
	var out []api.Method
	for _, name := range names[:r.Intn(4)] {
		flags := pick(r, api.Public, api.Protected, 0, api.Private)
		if inIface {
			flags = pick(r, api.Public, api.Public, api.Public, api.Private)
		}
		switch r.Intn(4) {
		case 0:
			flags |= api.Static
		case 1:
			if flags != api.Private {
				flags |= api.AbstractFl
			}
		}
		out = append(out, method(name, flags))
	}
	return out
}

// randomClass names at most what is told; a world may refuse it, for what it names may be shut.
func randomClass(r *rand.Rand, n int, there []api.Class) api.Class {
	c := class(fmt.Sprint(pick(r, "", "p/", "p/", "q/"), "C", n), "Object")
	isIface := r.Intn(2) > 0
	if isIface {
		c.Flags = api.Public | api.Interface | api.AbstractFl
	}
	if r.Intn(5) == 0 {
		c = shut(c)
	}
	c.Loader = pick(r, 0, 0, 0, 0, 9)
	for range 4 {
		above := there[r.Intn(len(there))]
		switch {
		case above.Flags&api.Interface == 0 && !isIface:
			c.Super = above.Name
		case above.Flags&api.Interface != 0 && !slices.Contains(c.Ifaces, above.Name):
			c.Ifaces = append(c.Ifaces, above.Name)
		}
	}
	c.Methods = randomMethods(r, isIface)
	return c
}

// randomWorld is a world of so many classes, those that are always there among them, and the same told a second time.
func randomWorld(t *testing.T, seed int64, count int) (*hier.World, told) {
	t.Helper()
	w, classes := hier.New(), firstClasses()
	r := rand.New(rand.NewSource(seed))
	for n := 0; len(classes) < count; n++ {
		c := randomClass(r, n, classes)
		switch _, e := w.Define(c); e {
		case api.OK:
			classes = append(classes, c)
		case api.IllegalAccess:
		default:
			t.Fatalf("Define(%s): %d", show(c), e)
		}
	}
	return w, newTold(classes)
}

func TestRandomWorlds(t *testing.T) { // P11.1 to P11.4
	for seed := range int64(30) {
		w, second := randomWorld(t, seed, 16)
		compare(t, w, second, second.numbers(), second.texts(), refsTo(second.texts()...))
	}
}

// TestRandomWorldsHaveAllKinds: without these the random worlds would show little.
func TestRandomWorldsHaveAllKinds(t *testing.T) {
	methods, classes := map[api.Errno]int{}, map[api.Errno]int{}
	inherited, fromIface, above, chosen := 0, 0, 0, 0
	for seed := range int64(30) {
		_, second := randomWorld(t, seed, 16)
		for d := range second.classes {
			for _, text := range second.texts() {
				_, e := second.class(d, text)
				classes[e]++
			}
			for _, r := range refsTo(second.texts()...) {
				m, e := second.method(d, r)
				methods[e]++
				c := second.named(r.Class)
				if e != api.OK || c < 0 || m.Class == c || m.Class == 0 {
					continue
				}
				switch all := second.most(c, r.Name, r.Desc); {
				case !second.isIface(m.Class):
					inherited++
				case r.Iface:
					above++
				default:
					fromIface++
					if len(all) > 2 && all[0] != all[1] {
						chosen++
					}
				}
			}
		}
	}
	for _, e := range []api.Errno{api.OK, api.ErrText, api.NoClassDef, api.IllegalAccess} {
		if classes[e] < 100 {
			t.Errorf("Class answers %d but %d times", e, classes[e])
		}
	}
	for _, e := range []api.Errno{api.OK, api.ErrForm, api.NoClassDef, api.IllegalAccess, api.NoSuchMethod, api.Incompatible} {
		if methods[e] < 100 {
			t.Errorf("Method answers %d but %d times", e, methods[e])
		}
	}
	if inherited < 100 || fromIface < 100 || above < 100 || chosen < 50 {
		t.Errorf("of classes above %d, of a class's interfaces %d, of an interface's %d, by a choice %d", inherited, fromIface, above, chosen)
	}
}

func TestFullWorld(t *testing.T) { // P11.1 to P11.4: as many classes as a world takes
	w, second := randomWorld(t, 77, api.MaxClasses)
	r := rand.New(rand.NewSource(77))
	if w.Len() != api.MaxClasses {
		t.Fatalf("%d classes", w.Len())
	}
	texts := second.texts()
	refs := refsTo(texts...)
	ids := append([]int{0, api.MaxClasses - 1}, oddNumbers...)
	for range 20 {
		ids = append(ids, r.Intn(api.MaxClasses))
	}
	var few []api.Ref
	for range 1000 {
		few = append(few, pick(r, refs...))
	}
	compare(t, w, second, ids, texts, few)
}

// randomTexts are texts that almost are what others are: bytes are turned, taken out and put in.
func randomTexts(r *rand.Rand, from []string, count int) []string {
	var out []string
	for range count {
		text := []byte(pick(r, from...))
		for range 1 + r.Intn(3) {
			at := r.Intn(len(text) + 1)
			b := pick(r, byte(r.Intn(256)), '[', ';', 'L', 'I', '/', 'C', '(', ')', 'V')
			switch {
			case r.Intn(2) == 0 || at == len(text):
				text = slices.Insert(text, at, b)
			case r.Intn(2) == 0:
				text = slices.Delete(text, at, at+1)
			default:
				text[at] = b
			}
		}
		out = append(out, string(text))
	}
	return out
}

func TestRandomTexts(t *testing.T) { // P11.1, P11.4, P0.1
	w, second := randomWorld(t, 5, 16)
	r := rand.New(rand.NewSource(5))
	texts := randomTexts(r, second.texts(), 5000)
	var refs []api.Ref
	for _, text := range texts {
		q := pick(r, questions()...)
		one := api.Ref{Iface: r.Intn(2) == 0, Class: text, Name: q[0], Desc: q[1]}
		if r.Intn(2) == 0 {
			one.Class = pick(r, second.texts()...)
			one.Name = randomTexts(r, []string{"m", "<init>", "id"}, 1)[0]
			one.Desc = randomTexts(r, []string{"()V", "(I)V", "()LObject;"}, 1)[0]
		}
		refs = append(refs, one)
	}
	compare(t, w, second, []int{0, 3, 9, 15, 16, -1}, append(texts, noReferences()...), refs)
}
