package access

import (
	"fmt"
	"math"
	"slices"
	"testing"

	"arbiter/api"
	"arbiter/hier"
)

func kind(dims int, name string) api.Type {
	return api.Type{Dims: dims, Name: name}
}

func method(name string, flags int) api.Method {
	return api.Method{Name: name, Desc: "()V", Flags: flags, Locals: 1, Code: []api.Inst{{Op: api.Return}}}
}

func class(name, super string, methods ...api.Method) api.Class {
	return api.Class{Name: name, Super: super, Flags: api.Public | api.Super, Methods: methods}
}

func iface(name string, methods ...api.Method) api.Class {
	return api.Class{Name: name, Super: "Object", Flags: api.Public | api.Interface | api.AbstractFl, Methods: methods}
}

// shut takes Public away, by takes another Loader, of names interfaces.
func shut(c api.Class) api.Class {
	c.Flags &^= api.Public
	return c
}

func by(loader int, c api.Class) api.Class {
	c.Loader = loader
	return c
}

func of(c api.Class, ifaces ...string) api.Class {
	c.Ifaces = ifaces
	return c
}

// show cuts what it shows, since names may be long.
func show(things ...any) string {
	text := fmt.Sprint(things...)
	return text[:min(len(text), 300)]
}

func define(t *testing.T, w *hier.World, c api.Class) int {
	t.Helper()
	id, e := w.Define(c)
	if e != api.OK {
		t.Fatalf("Define(%s): %d", show(c), e)
	}
	return id
}

func worldOf(t *testing.T, classes ...api.Class) *hier.World {
	t.Helper()
	w := hier.New()
	for _, c := range classes {
		define(t, w, c)
	}
	return w
}

// kinds are a method of each way of flags.Open, not Static and Static.
func kinds() []api.Method {
	return []api.Method{
		method("public", api.Public), method("protected", api.Protected), method("bare", 0), method("private", api.Private),
		method("publics", api.Public|api.Static), method("protecteds", api.Protected|api.Static), method("bares", api.Static), method("privates", api.Private|api.Static),
	}
}

// townClasses: p/A with a method of each kind; below it q/B, q/C (below q/B), q/H (beside q/B), p/Low (below q/C), p/Far (below q/C, by Loader 1); beside it the others.
func townClasses() []api.Class {
	return []api.Class{
		class("p/A", "Object", kinds()...),
		class("q/B", "p/A"), class("q/C", "q/B"), class("q/H", "p/A"), class("p/Low", "q/C"), by(1, class("p/Far", "q/C")),
		class("p/D", "Object"), shut(class("p/E", "Object")), by(1, class("p/F", "Object")), by(1, shut(class("p/G", "Object"))),
		iface("p/I", method("public", api.Public), method("private", api.Private), method("publics", api.Public|api.Static), method("privates", api.Private|api.Static)),
		of(class("q/J", "Object"), "p/I"), of(iface("q/K"), "p/I"),
		class("p/q/A", "Object"), class("pp/A", "Object"), shut(class("Bare", "Object")), class("Plain", "Object"), by(9, class("Ninth", "Object")), shut(iface("r/Shut")),
	}
}

func town(t *testing.T) *hier.World {
	t.Helper()
	return worldOf(t, townClasses()...)
}

func number(t *testing.T, w *hier.World, name string) int {
	t.Helper()
	id, e := w.ByName(name)
	if e != api.OK {
		t.Fatalf("ByName(%q): %d", name, e)
	}
	return id
}

func methodOf(t *testing.T, w *hier.World, class, name string) api.MethodID {
	t.Helper()
	id := number(t, w, class)
	c, _ := w.Class(id)
	at := slices.IndexFunc(c.Methods, func(m api.Method) bool { return m.Name == name })
	if at < 0 {
		t.Fatalf("%s has no method %s", class, name)
	}
	return api.MethodID{Class: id, Index: at}
}

func TestPackage(t *testing.T) { // P8.1
	w := town(t)
	for _, c := range []struct {
		of     string
		loader int
		want   string
	}{
		{"Object", 0, ""}, {"Cloneable", 0, ""}, {"Serializable", 0, ""}, {"p/A", 0, "p"}, {"q/B", 0, "q"}, {"p/Far", 1, "p"}, {"p/E", 0, "p"}, {"p/F", 1, "p"}, {"p/G", 1, "p"},
		{"p/I", 0, "p"}, {"p/q/A", 0, "p/q"}, {"pp/A", 0, "pp"}, {"Bare", 0, ""}, {"Plain", 0, ""}, {"Ninth", 9, ""}, {"r/Shut", 0, "r"},
	} {
		if loader, name, e := Package(w, number(t, w, c.of)); loader != c.loader || name != c.want || e != api.OK {
			t.Errorf("Package(%s) = %d, %q, %d", c.of, loader, name, e)
		}
	}
}

func TestPackageAtTheEdges(t *testing.T) { // P8.1: numbers of no class
	w := town(t)
	if loader, name, e := Package(w, w.Len()-1); loader != 0 || name != "r" || e != api.OK {
		t.Errorf("Package of the last = %d, %q, %d", loader, name, e)
	}
	for _, id := range append([]int{w.Len(), w.Len() + 1}, oddNumbers...) {
		if loader, name, e := Package(w, id); loader != 0 || name != "" || e != api.ErrRange {
			t.Errorf("Package(%d) = %d, %q, %d", id, loader, name, e)
		}
	}
	small := hier.New()
	if _, _, e := Package(small, 2); e != api.OK {
		t.Errorf("Package(2) = %d", e)
	}
	if _, _, e := Package(small, 3); e != api.ErrRange {
		t.Errorf("Package(3) = %d", e)
	}
}

func TestPackageOfEachLoader(t *testing.T) { // P8.1, P8.2: one package of names is as many run-time packages as it has loaders
	w := hier.New()
	var ids []int
	for loader := range api.MaxLoader + 1 {
		ids = append(ids, define(t, w, by(loader, shut(class(fmt.Sprint("p/A", loader), "Object")))))
	}
	for a, d := range ids {
		if loader, name, e := Package(w, d); loader != a || name != "p" || e != api.OK {
			t.Errorf("Package(%d) = %d, %q, %d", d, loader, name, e)
		}
		for b, c := range ids {
			if got, e := ClassOpen(w, d, c); got != (a == b) || e != api.OK {
				t.Errorf("ClassOpen(%d, %d) = %v, %d", d, c, got, e)
			}
		}
	}
}

func TestClassOpen(t *testing.T) { // P8.2
	w := town(t)
	for _, c := range []struct {
		d, c string
		want bool
	}{
		// Public
		{"p/D", "Object", true}, {"Ninth", "Object", true}, {"r/Shut", "p/I", true}, {"q/B", "p/F", true}, {"p/G", "p/A", true}, {"q/B", "q/C", true}, {"Bare", "p/D", true},
		// not Public, of one run-time package
		{"p/E", "p/E", true}, {"p/D", "p/E", true}, {"p/I", "p/E", true}, {"p/Low", "p/E", true}, {"p/F", "p/G", true}, {"p/Far", "p/G", true}, {"Plain", "Bare", true}, {"Object", "Bare", true}, {"Cloneable", "Bare", true}, {"r/Shut", "r/Shut", true},
		// of one package of names, with two Loaders
		{"p/F", "p/E", false}, {"p/Far", "p/E", false}, {"p/D", "p/G", false}, {"p/A", "p/G", false}, {"Ninth", "Bare", false},
		// of two packages, with one Loader
		{"q/B", "p/E", false}, {"p/q/A", "p/E", false}, {"pp/A", "p/E", false}, {"Object", "p/E", false}, {"p/A", "Bare", false}, {"p/A", "r/Shut", false},
		// of neither
		{"q/B", "p/G", false}, {"Ninth", "p/E", false}, {"p/G", "Bare", false},
	} {
		if got, e := ClassOpen(w, number(t, w, c.d), number(t, w, c.c)); got != c.want || e != api.OK {
			t.Errorf("ClassOpen(%s, %s) = %v, %d", c.d, c.c, got, e)
		}
	}
}

func TestClassOpenIsNotByBeingBelow(t *testing.T) { // P8.2: a class below another may not see it, if it is of another package
	w := worldOf(t, shut(class("p/A", "Object")), class("p/B", "p/A"), class("q/C", "p/B"))
	if got, e := ClassOpen(w, 5, 3); got || e != api.OK {
		t.Errorf("ClassOpen(q/C, p/A) = %v, %d", got, e)
	}
	if got, e := ClassOpen(w, 4, 3); !got || e != api.OK {
		t.Errorf("ClassOpen(p/B, p/A) = %v, %d", got, e)
	}
}

func TestClassOpenOfNoClass(t *testing.T) { // P8.2: of d, of c, of both
	w := town(t)
	for _, odd := range append([]int{w.Len(), w.Len() + 1}, oddNumbers...) {
		for _, pair := range [][2]int{{odd, 0}, {0, odd}, {odd, odd}, {odd, w.Len() - 1}, {w.Len() - 1, odd}, {odd, -1}, {math.MaxInt, odd}} {
			if got, e := ClassOpen(w, pair[0], pair[1]); got || e != api.ErrRange {
				t.Errorf("ClassOpen(%d, %d) = %v, %d", pair[0], pair[1], got, e)
			}
		}
	}
}

func TestTypeOpen(t *testing.T) { // P8.3
	w := town(t)
	for _, c := range []struct {
		d, of string
		want  bool
	}{
		{"q/B", "", true}, {"Ninth", "", true}, {"r/Shut", "", true}, {"Object", "", true},
		{"q/B", "p/A", true}, {"Ninth", "Object", true}, {"q/B", "Cloneable", true}, {"q/B", "p/F", true},
		{"p/D", "p/E", true}, {"p/E", "p/E", true}, {"p/F", "p/G", true}, {"Object", "Bare", true},
		{"q/B", "p/E", false}, {"p/F", "p/E", false}, {"p/D", "p/G", false}, {"Ninth", "Bare", false}, {"Object", "r/Shut", false},
	} {
		for dims := range api.MaxDims + 1 {
			if got, e := TypeOpen(w, number(t, w, c.d), kind(dims, c.of)); got != c.want || e != api.OK {
				t.Errorf("TypeOpen(%s, {%d %s}) = %v, %d", c.d, dims, c.of, got, e)
			}
		}
	}
}

func TestTypeOpenErrors(t *testing.T) { // P8.3, R2: of d ahead, then of the type: that it is not sound ahead of a name that is not there
	w := town(t)
	for _, c := range []struct {
		of   api.Type
		want api.Errno
	}{
		{kind(-1, ""), api.ErrForm}, {kind(256, ""), api.ErrForm}, {kind(-1, "p/A"), api.ErrForm}, {kind(256, "p/A"), api.ErrForm}, {kind(256, "p/E"), api.ErrForm}, {kind(0, "1"), api.ErrForm}, {kind(1, "[I"), api.ErrForm}, {kind(math.MinInt, "Object"), api.ErrForm}, {kind(math.MaxInt, "Object"), api.ErrForm},
		{kind(-1, "no/Such"), api.ErrForm}, {kind(256, "no/Such"), api.ErrForm},
		{kind(0, "no/Such"), api.NoClassDef}, {kind(1, "no/Such"), api.NoClassDef}, {kind(255, "no/Such"), api.NoClassDef}, {kind(0, "E"), api.NoClassDef},
	} {
		for _, d := range []string{"Object", "p/A", "q/B", "Ninth", "r/Shut"} {
			if got, e := TypeOpen(w, number(t, w, d), c.of); got || e != c.want {
				t.Errorf("TypeOpen(%s, %s) = %v, %d, want %d", d, show(c.of), got, e, c.want)
			}
		}
		for _, odd := range append([]int{w.Len()}, oddNumbers...) {
			if got, e := TypeOpen(w, odd, c.of); got || e != api.ErrRange {
				t.Errorf("TypeOpen(%d, %s) = %v, %d", odd, show(c.of), got, e)
			}
		}
	}
	for _, odd := range append([]int{w.Len()}, oddNumbers...) {
		for _, good := range []api.Type{kind(0, ""), kind(255, ""), kind(0, "Object"), kind(1, "p/E")} {
			if got, e := TypeOpen(w, odd, good); got || e != api.ErrRange {
				t.Errorf("TypeOpen(%d, %s) = %v, %d", odd, show(good), got, e)
			}
		}
	}
}

// openTo holds a method of a class, asked from d for each of named, against want.
func openTo(t *testing.T, w *hier.World, of, name, d string, want bool, named ...string) {
	t.Helper()
	for _, n := range named {
		if got, e := MethodOpen(w, number(t, w, d), methodOf(t, w, of, name), number(t, w, n)); got != want || e != api.OK {
			t.Errorf("MethodOpen(%s, %s of %s, named %s) = %v, %d", d, name, of, n, got, e)
		}
	}
}

func townNames() []string {
	out := []string{"Object", "Cloneable", "Serializable"}
	for _, c := range townClasses() {
		out = append(out, c.Name)
	}
	return out
}

func without(all []string, some ...string) []string {
	return slices.DeleteFunc(slices.Clone(all), func(name string) bool { return slices.Contains(some, name) })
}

func TestPublicMethods(t *testing.T) { // P8.4: to all, whatever is named
	w, all := town(t), townNames()
	for _, d := range all {
		openTo(t, w, "p/A", "public", d, true, all...)
		openTo(t, w, "p/A", "publics", d, true, all...)
		openTo(t, w, "p/I", "public", d, true, all...)
		openTo(t, w, "p/I", "publics", d, true, all...)
		openTo(t, w, "Object", "id", d, true, all...)
		openTo(t, w, "Object", "<init>", d, true, all...)
	}
}

func TestPrivateMethods(t *testing.T) { // P8.4: to the class itself, whatever is named; of an interface too
	w, all := town(t), townNames()
	for _, of := range []string{"p/A", "p/I"} {
		for _, name := range []string{"private", "privates"} {
			openTo(t, w, of, name, of, true, all...)
			for _, d := range without(all, of) {
				openTo(t, w, of, name, d, false, all...)
			}
		}
	}
}

func TestMethodsWithoutAWord(t *testing.T) { // P8.4: to the run-time package, whatever is named, below or not
	w, all := town(t), townNames()
	home := []string{"p/A", "p/Low", "p/D", "p/E", "p/I"}
	for _, name := range []string{"bare", "bares"} {
		for _, d := range home {
			openTo(t, w, "p/A", name, d, true, all...)
		}
		for _, d := range without(all, home...) {
			openTo(t, w, "p/A", name, d, false, all...)
		}
	}
}

func TestProtectedMethodsAtHome(t *testing.T) { // P8.4: to the run-time package, whatever is named, below or not
	w, all := town(t), townNames()
	for _, d := range []string{"p/A", "p/Low", "p/D", "p/E", "p/I"} {
		openTo(t, w, "p/A", "protected", d, true, all...)
		openTo(t, w, "p/A", "protecteds", d, true, all...)
	}
	for _, d := range []string{"Object", "Cloneable", "Bare", "Plain"} {
		openTo(t, w, "Object", "kin", d, true, all...)
	}
}

func TestProtectedMethodsElsewhere(t *testing.T) { // P8.4: to a class that does not extend, never
	w, all := town(t), townNames()
	for _, d := range without(all, "p/A", "p/Low", "p/D", "p/E", "p/I", "q/B", "q/C", "q/H", "p/Far") {
		openTo(t, w, "p/A", "protected", d, false, all...)
		openTo(t, w, "p/A", "protecteds", d, false, all...)
	}
}

func TestProtectedMethodsBelow(t *testing.T) { // P8.4: to a class of another package that extends, as named is below it, above it or itself
	w, all := town(t), townNames()
	for d, line := range map[string][]string{
		"q/B":   {"q/B", "q/C", "p/Low", "p/Far", "p/A", "Object"},
		"q/C":   {"q/C", "p/Low", "p/Far", "q/B", "p/A", "Object"},
		"q/H":   {"q/H", "p/A", "Object"},
		"p/Far": {"p/Far", "q/C", "q/B", "p/A", "Object"},
	} {
		openTo(t, w, "p/A", "protected", d, true, line...)
		openTo(t, w, "p/A", "protected", d, false, without(all, line...)...)
		openTo(t, w, "p/A", "protecteds", d, true, all...)
	}
}

func TestProtectedMethodsSeenFromInterfaces(t *testing.T) { // P8.4: an interface extends Object, and what it names
	w, all := town(t), townNames()
	openTo(t, w, "Object", "kin", "q/K", true, "q/K", "p/I", "Object")
	openTo(t, w, "Object", "kin", "q/K", false, without(all, "q/K", "p/I", "Object")...)
	openTo(t, w, "Object", "kin", "p/I", true, "q/K", "p/I", "q/J", "Object")
	openTo(t, w, "Object", "kin", "p/I", false, without(all, "q/K", "p/I", "q/J", "Object")...)
	openTo(t, w, "Object", "kin", "q/J", true, "q/J", "p/I", "Object")
	openTo(t, w, "Object", "kin", "q/J", false, without(all, "q/J", "p/I", "Object")...)
}

// TestProtectedMethodsOfInterfaces: no interface has one in a world, so the rule about them is asked by itself.
func TestProtectedMethodsOfInterfaces(t *testing.T) { // P8.4
	w := town(t)
	if _, e := w.Define(iface("q/Wrong", method("m", api.Protected))); e != api.ErrForm {
		t.Fatalf("Define = %d", e)
	}
	i, j, k := number(t, w, "p/I"), number(t, w, "q/J"), number(t, w, "q/K")
	for _, static := range []bool{false, true} {
		if isOpenBelow(w, j, i, j, static) || isOpenBelow(w, k, i, k, static) || isOpenBelow(w, i, i, i, static) {
			t.Errorf("a protected method of an interface is open to what is below it")
		}
		if !isOpenBelow(w, j, 0, j, static) {
			t.Errorf("a protected method of a class is shut to what is below it")
		}
	}
}

func TestMethodOpenOfNoNumber(t *testing.T) { // P8.4: d, named and m, one at a time and together
	w := town(t)
	c := number(t, w, "p/A")
	good := api.MethodID{Class: c, Index: 0}
	for _, odd := range append([]int{w.Len(), w.Len() + 1}, oddNumbers...) {
		for _, q := range []struct {
			d     int
			m     api.MethodID
			named int
		}{
			{odd, good, 0}, {0, good, odd}, {odd, good, odd},
			{0, api.MethodID{Class: odd, Index: 0}, 0}, {0, api.MethodID{Class: c, Index: odd}, 0}, {0, api.MethodID{Class: odd, Index: odd}, 0},
			{odd, api.MethodID{Class: odd, Index: 0}, 0}, {0, api.MethodID{Class: c, Index: odd}, odd}, {odd, api.MethodID{Class: odd, Index: odd}, odd},
			{c, api.MethodID{Class: c, Index: odd}, c}, {c, api.MethodID{Class: odd, Index: 1}, c},
		} {
			if got, e := MethodOpen(w, q.d, q.m, q.named); got || e != api.ErrRange {
				t.Errorf("MethodOpen(%d, %v, %d) = %v, %d", q.d, q.m, q.named, got, e)
			}
		}
	}
}

func TestMethodOpenAtTheEdges(t *testing.T) { // P8.4: m.Index at both edges and one beyond, of classes with methods and without
	w := town(t)
	last := w.Len() - 1
	for id := range w.Len() {
		c, _ := w.Class(id)
		for _, index := range []int{-1, 0, len(c.Methods) - 1, len(c.Methods)} {
			want := api.OK
			if index < 0 || index >= len(c.Methods) {
				want = api.ErrRange
			}
			if got, e := MethodOpen(w, last, api.MethodID{Class: id, Index: index}, last); got && e != api.OK || e != want {
				t.Errorf("MethodOpen(.., {%d %d}, ..) = %v, %d, want %d", id, index, got, e, want)
			}
		}
	}
	if got, e := MethodOpen(w, last, api.MethodID{Class: 0, Index: 0}, last); !got || e != api.OK {
		t.Errorf("the zero method: %v, %d", got, e)
	}
	many := class("Many", "Object")
	for n := range api.MaxMethods {
		many.Methods = append(many.Methods, method(fmt.Sprint("m", n), []int{api.Private, api.Public}[n%2]))
	}
	id := define(t, w, many)
	for index := range api.MaxMethods {
		if got, e := MethodOpen(w, 0, api.MethodID{Class: id, Index: index}, id); got != (index%2 == 1) || e != api.OK {
			t.Errorf("MethodOpen of method %d = %v, %d", index, got, e)
		}
	}
	if got, e := MethodOpen(w, 0, api.MethodID{Class: id, Index: api.MaxMethods}, id); got || e != api.ErrRange {
		t.Errorf("MethodOpen of method %d = %v, %d", api.MaxMethods, got, e)
	}
}

func TestNilWorld(t *testing.T) { // P8.1 to P8.4, R6: ahead of every other error
	ids := append([]int{0, 1, 2, 3}, oddNumbers...)
	for _, d := range ids {
		if loader, name, e := Package(nil, d); loader != 0 || name != "" || e != api.ErrArg {
			t.Errorf("Package(nil, %d) = %d, %q, %d", d, loader, name, e)
		}
		for _, c := range ids {
			if got, e := ClassOpen(nil, d, c); got || e != api.ErrArg {
				t.Errorf("ClassOpen(nil, %d, %d) = %v, %d", d, c, got, e)
			}
			for _, m := range []api.MethodID{{}, {Class: 0, Index: 1}, {Class: -1}, {Index: -1}, {Class: c, Index: d}} {
				if got, e := MethodOpen(nil, d, m, c); got || e != api.ErrArg {
					t.Errorf("MethodOpen(nil, %d, %v, %d) = %v, %d", d, m, c, got, e)
				}
			}
		}
		for _, of := range append(oddTypes(), newTold().typesOf(0, 1, 255)...) {
			if got, e := TypeOpen(nil, d, of); got || e != api.ErrArg {
				t.Errorf("TypeOpen(nil, %d, %s) = %v, %d", d, show(of), got, e)
			}
		}
	}
}

// TestWorldThatNewDidNotMake: it has no class, so no number is one.
func TestWorldThatNewDidNotMake(t *testing.T) { // P0.1
	w := &hier.World{}
	for _, id := range append([]int{0, 1}, oddNumbers...) {
		if _, _, e := Package(w, id); e != api.ErrRange {
			t.Errorf("Package(%d) = %d", id, e)
		}
		if got, e := ClassOpen(w, id, id); got || e != api.ErrRange {
			t.Errorf("ClassOpen(%d, %d) = %v, %d", id, id, got, e)
		}
		if got, e := TypeOpen(w, id, kind(1, "")); got || e != api.ErrRange {
			t.Errorf("TypeOpen(%d, [I) = %v, %d", id, got, e)
		}
		if got, e := MethodOpen(w, id, api.MethodID{}, id); got || e != api.ErrRange {
			t.Errorf("MethodOpen(%d, .., %d) = %v, %d", id, id, got, e)
		}
	}
}

func TestExamples(t *testing.T) { // the chapter's examples
	a := class("p/A", "Object", method("m", api.Protected), method("n", 0), method("k", api.Private))
	w := worldOf(t, a, class("q/B", "p/A"), class("q/C", "q/B"), class("p/D", "Object"), shut(class("p/E", "Object")), by(1, shut(class("p/E1", "Object"))))
	all := []string{"Object", "Cloneable", "Serializable", "p/A", "q/B", "q/C", "p/D", "p/E", "p/E1"}
	openTo(t, w, "p/A", "m", "p/D", true, all...)
	openTo(t, w, "p/A", "m", "q/B", true, "q/B", "q/C", "p/A", "Object")
	openTo(t, w, "p/A", "m", "q/C", true, "q/B", "q/C", "p/A", "Object")
	openTo(t, w, "p/A", "m", "q/B", false, "p/D")
	for _, d := range without(all, "p/E") {
		openTo(t, w, "p/A", "n", d, d == "p/A" || d == "p/D", all...)
		openTo(t, w, "p/A", "k", d, d == "p/A", all...)
	}
	for _, c := range []struct {
		d, c string
		want bool
	}{{"p/D", "Object", true}, {"p/D", "p/E", true}, {"q/B", "p/E", false}, {"p/D", "p/E1", false}} {
		if got, e := ClassOpen(w, number(t, w, c.d), number(t, w, c.c)); got != c.want || e != api.OK {
			t.Errorf("ClassOpen(%s, %s) = %v, %d", c.d, c.c, got, e)
		}
	}
	b := number(t, w, "q/B")
	if got, e := TypeOpen(w, b, kind(2, "")); !got || e != api.OK {
		t.Errorf("TypeOpen(q/B, [[I) = %v, %d", got, e)
	}
	if got, e := TypeOpen(w, b, kind(1, "p/E")); got || e != api.OK {
		t.Errorf("TypeOpen(q/B, [Lp/E;) = %v, %d", got, e)
	}
	if got, e := MethodOpen(w, -1, api.MethodID{}, 0); got || e != api.ErrRange {
		t.Errorf("MethodOpen(-1, ..) = %v, %d", got, e)
	}
}
