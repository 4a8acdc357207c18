package arrays

import (
	"fmt"
	"math"
	"slices"
	"strings"
	"testing"

	"arbiter/api"
	"arbiter/hier"
	"arbiter/types"
)

func kind(dims int, name string) api.Type {
	return api.Type{Dims: dims, Name: name}
}

func class(name, super string, ifaces ...string) api.Class {
	return api.Class{Name: name, Super: super, Flags: api.Public | api.Super, Ifaces: ifaces}
}

func iface(name string, ifaces ...string) api.Class {
	return api.Class{Name: name, Super: "Object", Flags: api.Public | api.Interface | api.AbstractFl, Ifaces: ifaces}
}

func repeat(text string, times int) string {
	return strings.Repeat(text, times)
}

// show cuts what it shows, since names may be long.
func show(things ...any) string {
	text := fmt.Sprint(things...)
	return text[:min(len(text), 300)]
}

func define(t *testing.T, w *hier.World, c api.Class) int {
	t.Helper()
	id, e := w.Define(c)
	if e != api.OK {
		t.Fatalf("Define(%s): %d", show(c), e)
	}
	return id
}

func worldOf(t *testing.T, classes ...api.Class) *hier.World {
	t.Helper()
	w := hier.New()
	for _, c := range classes {
		define(t, w, c)
	}
	return w
}

// townClasses: 3 I, 4 K, 5 J (an interface of I and K), 6 A (of I), 7 p/B (below A, of K, Serializable, J), 8 Plain, 9 p/Hidden.
func townClasses() []api.Class {
	hidden := class("p/Hidden", "p/B")
	hidden.Flags = 0
	return []api.Class{iface("I"), iface("K"), iface("J", "I", "K"), class("A", "Object", "I"), class("p/B", "A", "K", "Serializable", "J"), class("Plain", "Object"), hidden}
}

func town(t *testing.T) *hier.World {
	t.Helper()
	return worldOf(t, townClasses()...)
}

func typeOf(t *testing.T, text string) api.Type {
	t.Helper()
	out, e := types.Parse(text)
	if e != api.OK {
		t.Fatalf("Parse(%q): %d", text, e)
	}
	return out
}

// aboveText is the steps up as texts with blanks between.
func aboveText(t *testing.T, w *hier.World, s api.Type) string {
	t.Helper()
	steps, e := Above(w, s)
	if e != api.OK {
		t.Fatalf("Above(%s): %d", show(s), e)
	}
	var out []string
	for _, step := range steps {
		text, e := types.Text(step)
		if e != api.OK {
			t.Fatalf("Above(%s) has %s, which is not sound", show(s), show(step))
		}
		out = append(out, text)
	}
	return strings.Join(out, " ")
}

func TestLoaded(t *testing.T) { // P7.1
	w := town(t)
	for _, name := range []string{"", "Object", "Cloneable", "Serializable", "I", "A", "p/B", "p/Hidden"} {
		for dims := range api.MaxDims + 1 {
			if e := Loaded(w, kind(dims, name)); e != api.OK {
				t.Errorf("Loaded({%d %s}) = %d", dims, name, e)
			}
		}
	}
	for _, c := range []struct {
		of   api.Type
		want api.Errno
	}{
		{kind(0, "no/Such"), api.NoClassDef}, {kind(1, "no/Such"), api.NoClassDef}, {kind(255, "no/Such"), api.NoClassDef},
		{kind(0, "B"), api.NoClassDef}, {kind(0, "q/B"), api.NoClassDef}, {kind(0, "a"), api.NoClassDef}, {kind(0, repeat("n", 60)), api.NoClassDef},
		{kind(-1, "A"), api.ErrForm}, {kind(256, "A"), api.ErrForm}, {kind(-1, ""), api.ErrForm}, {kind(256, ""), api.ErrForm},
		{kind(math.MinInt, "A"), api.ErrForm}, {kind(math.MaxInt, ""), api.ErrForm}, {kind(1<<32, "A"), api.ErrForm},
		{kind(0, "1"), api.ErrForm}, {kind(2, "p/"), api.ErrForm}, {kind(0, "LA;"), api.ErrForm}, {kind(0, "[I"), api.ErrForm}, {kind(0, repeat("n", 61)), api.ErrForm},
	} {
		if got := Loaded(w, c.of); got != c.want {
			t.Errorf("Loaded(%s) = %d, want %d", show(c.of), got, c.want)
		}
	}
}

func TestLoadedAnswersTheFirstError(t *testing.T) { // P7.1, R2
	w := town(t)
	for _, bad := range []api.Type{kind(-1, "A"), kind(-1, "no/Such"), kind(256, "no/Such"), kind(0, "1"), kind(math.MaxInt, "1")} {
		if got := Loaded(nil, bad); got != api.ErrArg {
			t.Errorf("Loaded(nil, %s) = %d", show(bad), got)
		}
		if got := Loaded(w, bad); got != api.ErrForm {
			t.Errorf("Loaded(%s) = %d", show(bad), got)
		}
	}
	if got := Loaded(nil, kind(0, "no/Such")); got != api.ErrArg {
		t.Errorf("Loaded(nil, no/Such) = %d", got)
	}
}

func TestTypeOf(t *testing.T) { // P7.2
	w := town(t)
	for id, name := range []string{"Object", "Cloneable", "Serializable", "I", "K", "J", "A", "p/B", "Plain", "p/Hidden"} {
		if got, e := TypeOf(w, id); got != kind(0, name) || e != api.OK {
			t.Errorf("TypeOf(%d) = %s, %d", id, show(got), e)
		}
	}
	for _, id := range append([]int{10, 11}, oddNumbers...) {
		if got, e := TypeOf(w, id); got != kind(0, "") || e != api.ErrRange {
			t.Errorf("TypeOf(%d) = %s, %d", id, show(got), e)
		}
	}
	small := hier.New()
	if got, e := TypeOf(small, 2); got != kind(0, "Serializable") || e != api.OK {
		t.Errorf("TypeOf(2) = %s, %d", show(got), e)
	}
	if got, e := TypeOf(small, 3); got != kind(0, "") || e != api.ErrRange {
		t.Errorf("TypeOf(3) = %s, %d", show(got), e)
	}
}

func TestHolder(t *testing.T) { // P7.3
	w := town(t)
	for _, c := range []struct {
		of   api.Type
		want int
		err  api.Errno
	}{
		{kind(0, ""), 0, api.ErrArg}, {kind(1, ""), 0, api.OK}, {kind(255, ""), 0, api.OK},
		{kind(0, "Object"), 0, api.OK}, {kind(0, "Cloneable"), 1, api.OK}, {kind(0, "Serializable"), 2, api.OK}, {kind(0, "I"), 3, api.OK}, {kind(0, "A"), 6, api.OK}, {kind(0, "p/B"), 7, api.OK}, {kind(0, "p/Hidden"), 9, api.OK},
		{kind(1, "A"), 0, api.OK}, {kind(2, "p/B"), 0, api.OK}, {kind(1, "Cloneable"), 0, api.OK}, {kind(255, "p/B"), 0, api.OK},
		{kind(0, "no/Such"), 0, api.NoClassDef}, {kind(1, "no/Such"), 0, api.NoClassDef},
		{kind(-1, "A"), 0, api.ErrForm}, {kind(-1, ""), 0, api.ErrForm}, {kind(256, ""), 0, api.ErrForm}, {kind(0, "1"), 0, api.ErrForm},
	} {
		if got, e := Holder(w, c.of); got != c.want || e != c.err {
			t.Errorf("Holder(%s) = %d, %d, want %d, %d", show(c.of), got, e, c.want, c.err)
		}
	}
}

func TestSubErrors(t *testing.T) { // P7.4: of s, of t, of both, those of s ahead
	w := town(t)
	good, unsound, missing := kind(0, "A"), kind(-1, "A"), kind(1, "no/Such")
	for _, c := range []struct {
		s, t api.Type
		want api.Errno
	}{
		{unsound, good, api.ErrForm}, {missing, good, api.NoClassDef},
		{good, unsound, api.ErrForm}, {good, missing, api.NoClassDef},
		{unsound, missing, api.ErrForm}, {missing, unsound, api.NoClassDef},
		{unsound, unsound, api.ErrForm}, {missing, missing, api.NoClassDef},
		{kind(0, ""), missing, api.NoClassDef}, {missing, kind(0, ""), api.NoClassDef}, {kind(0, ""), kind(256, ""), api.ErrForm}, {kind(256, ""), kind(0, ""), api.ErrForm},
		{missing, kind(0, "Object"), api.NoClassDef}, {kind(256, "A"), kind(256, "A"), api.ErrForm},
	} {
		if got, e := Sub(w, c.s, c.t); got || e != c.want {
			t.Errorf("Sub(%s, %s) = %v, %d, want %d", show(c.s), show(c.t), got, e, c.want)
		}
		if got, e := Sub(nil, c.s, c.t); got || e != api.ErrArg {
			t.Errorf("Sub(nil, %s, %s) = %v, %d", show(c.s), show(c.t), got, e)
		}
	}
}

// subCases has each rule of 'below', both ways round: the pair, whether the first is below the second, and whether the second is below the first.
var subCases = []struct {
	s, t     string
	up, down bool
}{
	// int
	{"I", "I", true, true}, {"I", "LObject;", false, false}, {"I", "LA;", false, false}, {"I", "LI;", false, false}, {"I", "LCloneable;", false, false}, {"I", "[I", false, false}, {"I", "[LA;", false, false}, {"I", "[[I", false, false},
	// classes and interfaces
	{"LA;", "LA;", true, true}, {"LA;", "LObject;", true, false}, {"LA;", "LI;", true, false}, {"LA;", "LK;", false, false}, {"Lp/B;", "LA;", true, false}, {"Lp/B;", "LI;", true, false}, {"Lp/B;", "LK;", true, false}, {"Lp/B;", "LJ;", true, false}, {"Lp/B;", "LSerializable;", true, false}, {"Lp/B;", "LCloneable;", false, false},
	{"LI;", "LObject;", true, false}, {"LJ;", "LI;", true, false}, {"LI;", "LK;", false, false}, {"LPlain;", "LA;", false, false}, {"LObject;", "LCloneable;", false, true}, {"LObject;", "LObject;", true, true}, {"Lp/Hidden;", "LK;", true, false},
	// a class and an array
	{"LA;", "[LA;", false, false}, {"LA;", "[I", false, false}, {"LA;", "[LObject;", false, false}, {"LObject;", "[LObject;", false, true}, {"LCloneable;", "[LCloneable;", false, true}, {"LSerializable;", "[[I", false, true},
	// an array and Object, Cloneable, Serializable, another class
	{"[I", "LObject;", true, false}, {"[I", "LCloneable;", true, false}, {"[I", "LSerializable;", true, false}, {"[I", "LA;", false, false}, {"[I", "LI;", false, false},
	{"[LA;", "LObject;", true, false}, {"[LA;", "LCloneable;", true, false}, {"[LA;", "LSerializable;", true, false}, {"[LA;", "LI;", false, false}, {"[[Lp/B;", "LK;", false, false}, {"[[Lp/B;", "LSerializable;", true, false}, {"[LObject;", "LPlain;", false, false},
	// arrays over int
	{"[I", "[I", true, true}, {"[[I", "[[I", true, true}, {"[I", "[[I", false, false}, {"[[[I", "[I", false, false},
	{"[I", "[LObject;", false, false}, {"[I", "[LCloneable;", false, false}, {"[I", "[LI;", false, false}, {"[I", "[LA;", false, false}, {"[I", "[[LObject;", false, false},
	{"[[I", "[LObject;", true, false}, {"[[I", "[LCloneable;", true, false}, {"[[I", "[LSerializable;", true, false}, {"[[I", "[LI;", false, false}, {"[[I", "[LA;", false, false}, {"[[I", "[[LObject;", false, false}, {"[[[I", "[LObject;", true, false}, {"[[[I", "[[LSerializable;", true, false},
	// arrays over classes
	{"[LA;", "[LA;", true, true}, {"[LA;", "[LI;", true, false}, {"[LA;", "[LObject;", true, false}, {"[LA;", "[LCloneable;", false, false}, {"[Lp/B;", "[LSerializable;", true, false}, {"[[Lp/B;", "[[LA;", true, false}, {"[LI;", "[LObject;", true, false}, {"[LPlain;", "[LA;", false, false}, {"[LObject;", "[LCloneable;", false, true},
	{"[[LA;", "[LA;", false, false}, {"[[LA;", "[LI;", false, false}, {"[[LA;", "[LObject;", true, false}, {"[[LA;", "[LCloneable;", true, false}, {"[[LA;", "[LSerializable;", true, false}, {"[[[LA;", "[LCloneable;", true, false}, {"[[LObject;", "[LObject;", true, false}, {"[[LCloneable;", "[LCloneable;", true, false}, {"[[[LA;", "[[LK;", false, false},
}

func TestSub(t *testing.T) { // P7.4
	w := town(t)
	for _, c := range subCases {
		if got, e := Sub(w, typeOf(t, c.s), typeOf(t, c.t)); got != c.up || e != api.OK {
			t.Errorf("Sub(%s, %s) = %v, %d", c.s, c.t, got, e)
		}
		if got, e := Sub(w, typeOf(t, c.t), typeOf(t, c.s)); got != c.down || e != api.OK {
			t.Errorf("Sub(%s, %s) = %v, %d", c.t, c.s, got, e)
		}
	}
}

// TestSubBelowMoreDimensions: what holds of two types holds of the arrays over them.
func TestSubBelowMoreDimensions(t *testing.T) { // P7.4
	w := town(t)
	for _, c := range subCases {
		s, u := typeOf(t, c.s), typeOf(t, c.t)
		for s.Dims < api.MaxDims && u.Dims < api.MaxDims {
			s.Dims++
			u.Dims++
			if got, e := Sub(w, s, u); got != c.up || e != api.OK {
				t.Fatalf("Sub(%s, %s) = %v, %d", show(s), show(u), got, e)
			}
		}
	}
}

func TestSubAtTheGreatestDims(t *testing.T) { // P7.4
	w := town(t)
	for _, c := range []struct {
		s, t api.Type
		want bool
	}{
		{kind(255, "A"), kind(255, "A"), true}, {kind(255, "A"), kind(255, "I"), true}, {kind(255, "I"), kind(255, "A"), false}, {kind(255, "A"), kind(255, "Object"), true}, {kind(255, "A"), kind(255, "Cloneable"), false},
		{kind(255, "A"), kind(254, "Cloneable"), true}, {kind(255, "A"), kind(254, "Object"), true}, {kind(255, "A"), kind(254, "A"), false}, {kind(255, "A"), kind(254, "I"), false}, {kind(254, "Object"), kind(255, "Object"), false},
		{kind(255, "A"), kind(1, "Serializable"), true}, {kind(255, "A"), kind(0, "Serializable"), true}, {kind(255, "A"), kind(0, "A"), false}, {kind(0, "A"), kind(255, "A"), false},
		{kind(255, ""), kind(255, ""), true}, {kind(255, ""), kind(254, ""), false}, {kind(254, ""), kind(255, ""), false}, {kind(255, ""), kind(255, "Object"), false}, {kind(255, ""), kind(254, "Object"), true}, {kind(255, ""), kind(254, "Serializable"), true}, {kind(255, ""), kind(254, "A"), false}, {kind(255, "A"), kind(255, ""), false}, {kind(255, ""), kind(0, ""), false}, {kind(0, ""), kind(255, ""), false},
	} {
		if got, e := Sub(w, c.s, c.t); got != c.want || e != api.OK {
			t.Errorf("Sub(%s, %s) = %v, %d", show(c.s), show(c.t), got, e)
		}
	}
}

func TestAbove(t *testing.T) { // P7.5
	w := town(t)
	for of, want := range map[string]string{
		"I": "", "LObject;": "", "LCloneable;": "LObject;", "LI;": "LObject;", "LJ;": "LObject; LI; LK;", "LA;": "LObject; LI;", "Lp/B;": "LA; LK; LSerializable; LJ;", "LPlain;": "LObject;", "Lp/Hidden;": "Lp/B;",
		"[I": "LObject; LCloneable; LSerializable;", "[LObject;": "LObject; LCloneable; LSerializable;", "[LCloneable;": "[LObject;", "[LI;": "[LObject;", "[LJ;": "[LObject; [LI; [LK;", "[LA;": "[LObject; [LI;", "[Lp/B;": "[LA; [LK; [LSerializable; [LJ;", "[LPlain;": "[LObject;", "[Lp/Hidden;": "[Lp/B;",
		"[[I": "[LObject; [LCloneable; [LSerializable;", "[[LObject;": "[LObject; [LCloneable; [LSerializable;", "[[[I": "[[LObject; [[LCloneable; [[LSerializable;", "[[[LObject;": "[[LObject; [[LCloneable; [[LSerializable;", "[[LI;": "[[LObject;", "[[Lp/B;": "[[LA; [[LK; [[LSerializable; [[LJ;",
	} {
		if got := aboveText(t, w, typeOf(t, of)); got != want {
			t.Errorf("Above(%s) = %s, want %s", of, got, want)
		}
	}
	for _, name := range []string{"", "Object"} {
		got, e := Above(w, kind(255, name))
		if e != api.OK || !slices.Equal(got, []api.Type{kind(254, "Object"), kind(254, "Cloneable"), kind(254, "Serializable")}) {
			t.Errorf("Above({255 %s}) = %s, %d", name, show(got), e)
		}
	}
	got, e := Above(w, kind(255, "p/B"))
	if e != api.OK || !slices.Equal(got, []api.Type{kind(255, "A"), kind(255, "K"), kind(255, "Serializable"), kind(255, "J")}) {
		t.Errorf("Above({255 p/B}) = %s, %d", show(got), e)
	}
}

func TestAboveOfManyIfaces(t *testing.T) { // P7.5: as many as a class may name, in its own order
	w := hier.New()
	var names []string
	for n := range api.MaxIfaces {
		define(t, w, iface(fmt.Sprint("I", n)))
		names = append([]string{fmt.Sprint("I", n)}, names...)
	}
	define(t, w, class("Many", "Object", names...))
	for _, dims := range []int{0, 1, 255} {
		want := []api.Type{kind(dims, "Object")}
		for _, name := range names {
			want = append(want, kind(dims, name))
		}
		if got, e := Above(w, kind(dims, "Many")); e != api.OK || !slices.Equal(got, want) {
			t.Errorf("Above({%d Many}) = %s, %d", dims, show(got), e)
		}
	}
}

func TestAboveErrors(t *testing.T) { // P7.5
	w := town(t)
	for _, c := range []struct {
		of   api.Type
		want api.Errno
	}{{kind(0, "no/Such"), api.NoClassDef}, {kind(3, "no/Such"), api.NoClassDef}, {kind(-1, "A"), api.ErrForm}, {kind(256, "Object"), api.ErrForm}, {kind(-1, ""), api.ErrForm}, {kind(256, ""), api.ErrForm}, {kind(-1, "no/Such"), api.ErrForm}, {kind(1, "1"), api.ErrForm}} {
		if got, e := Above(w, c.of); len(got) != 0 || e != c.want {
			t.Errorf("Above(%s) = %s, %d, want %d", show(c.of), show(got), e, c.want)
		}
	}
}

func TestNilWorld(t *testing.T) { // P7.1 to P7.5, R6: ahead of every other error
	second := newTold()
	for _, of := range append(oddTypes(), second.typesOf(0, 1, 255)...) {
		if e := Loaded(nil, of); e != api.ErrArg {
			t.Errorf("Loaded(nil, %s) = %d", show(of), e)
		}
		if got, e := Holder(nil, of); got != 0 || e != api.ErrArg {
			t.Errorf("Holder(nil, %s) = %d, %d", show(of), got, e)
		}
		if got, e := Above(nil, of); len(got) != 0 || e != api.ErrArg {
			t.Errorf("Above(nil, %s) = %s, %d", show(of), show(got), e)
		}
		for _, other := range []api.Type{of, kind(0, ""), kind(0, "Object"), kind(0, "no/Such"), kind(-1, "")} {
			if got, e := Sub(nil, of, other); got || e != api.ErrArg {
				t.Errorf("Sub(nil, %s, %s) = %v, %d", show(of), show(other), got, e)
			}
			if got, e := Sub(nil, other, of); got || e != api.ErrArg {
				t.Errorf("Sub(nil, %s, %s) = %v, %d", show(other), show(of), got, e)
			}
		}
	}
	for _, id := range append([]int{0, 1, 2, 3}, oddNumbers...) {
		if got, e := TypeOf(nil, id); got != kind(0, "") || e != api.ErrArg {
			t.Errorf("TypeOf(nil, %d) = %s, %d", id, show(got), e)
		}
	}
}

// TestWorldThatNewDidNotMake: the document does not speak of it; no call may panic (P0.1).
func TestWorldThatNewDidNotMake(t *testing.T) {
	w := &hier.World{}
	if e := Loaded(w, kind(0, "Object")); e != api.NoClassDef {
		t.Errorf("Loaded = %d", e)
	}
	for _, of := range append(oddTypes(), newTold().typesOf(0, 1, 2, 255)...) {
		Loaded(w, of)
		Holder(w, of)
		Above(w, of)
		Sub(w, of, kind(1, ""))
		Sub(w, kind(2, ""), of)
	}
	if got, e := TypeOf(w, 0); got != kind(0, "") || e != api.ErrRange {
		t.Errorf("TypeOf = %s, %d", show(got), e)
	}
}

func TestExamples(t *testing.T) { // the chapter's examples
	w := hier.New()
	for _, c := range []struct {
		s, t string
		want bool
	}{
		{"I", "I", true}, {"I", "LObject;", false}, {"[I", "LObject;", true}, {"[I", "LCloneable;", true}, {"[I", "[LObject;", false}, {"[[I", "[LObject;", true}, {"[[I", "[LCloneable;", true}, {"[[I", "LObject;", true}, {"[[I", "[[LObject;", false},
	} {
		if got, e := Sub(w, typeOf(t, c.s), typeOf(t, c.t)); got != c.want || e != api.OK {
			t.Errorf("Sub(%s, %s) = %v, %d", c.s, c.t, got, e)
		}
	}
	define(t, w, iface("I"))
	a := define(t, w, class("A", "Object", "I"))
	for _, c := range []struct {
		s, t string
		want bool
	}{
		{"[LA;", "[LI;", true}, {"[LA;", "[LObject;", true}, {"[LA;", "LSerializable;", true}, {"[[LA;", "[LCloneable;", true}, {"[[LA;", "[[LI;", true}, {"LI;", "LObject;", true}, {"[LObject;", "[LA;", false},
	} {
		if got, e := Sub(w, typeOf(t, c.s), typeOf(t, c.t)); got != c.want || e != api.OK {
			t.Errorf("Sub(%s, %s) = %v, %d", c.s, c.t, got, e)
		}
	}
	if h, e := Holder(w, kind(0, "A")); h != a || e != api.OK {
		t.Errorf("Holder(LA;) = %d, %d", h, e)
	}
	for _, d := range []api.Type{kind(255, "I"), kind(254, "Cloneable")} {
		if got, e := Sub(w, kind(255, "A"), d); !got || e != api.OK {
			t.Errorf("Sub({255 A}, %s) = %v, %d", show(d), got, e)
		}
	}
	if got := aboveText(t, w, kind(1, "A")); got != "[LObject; [LI;" {
		t.Errorf("Above([LA;) = %s", got)
	}
}
