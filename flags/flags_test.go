package flags

import (
	"maps"
	"math"
	"math/rand"
	"strings"
	"testing"

	"arbiter/api"
)

// named is a flag with its word, as the document lists them.
type named struct {
	flag int
	word string
}

// The orders of P3.3 and P3.4, told apart from the package's own table.
var (
	ofClasses = []named{{0x1, "public"}, {0x10, "final"}, {0x20, "super"}, {0x200, "interface"}, {0x400, "abstract"}}
	ofMethods = []named{{0x1, "public"}, {0x2, "private"}, {0x4, "protected"}, {0x8, "static"}, {0x10, "final"}, {0x400, "abstract"}}
)

// textsOf are the texts of all sets of the flags, with the set of each.
func textsOf(list []named) map[string]int {
	all := map[string]int{"": 0}
	for _, n := range list {
		for text, f := range maps.Clone(all) {
			all[strings.TrimPrefix(text+" "+n.word, " ")] = f | n.flag
		}
	}
	return all
}

// setsOf are the same, the other way round.
func setsOf(list []named) map[int]string {
	all := map[int]string{}
	for text, f := range textsOf(list) {
		all[f] = text
	}
	return all
}

// anyInts are all sets of the low thirteen bits, those with one bit far above, and the edges of int.
func anyInts() []int {
	var all []int
	for f := range 1 << 13 {
		all = append(all, f, -f-1, f|math.MinInt)
	}
	for shift := 11; shift < 63; shift++ {
		all = append(all, 1<<shift, 1<<shift|api.Public, 1<<shift|api.Interface|api.AbstractFl, -1<<shift, -1<<shift|api.Public)
	}
	return append(all, math.MaxInt, math.MaxInt-1, math.MinInt, math.MinInt+1, math.MaxInt32, math.MinInt32, math.MaxInt32+1, math.MaxInt^api.Static)
}

func TestTheHelpersNameEverySet(t *testing.T) {
	if n := len(textsOf(ofClasses)); n != 32 || len(setsOf(ofClasses)) != 32 {
		t.Errorf("%d sets of a class's flags", n)
	}
	if n := len(textsOf(ofMethods)); n != 64 || len(setsOf(ofMethods)) != 64 {
		t.Errorf("%d sets of a method's flags", n)
	}
}

// P3.1

func TestCheckClassExamples(t *testing.T) {
	for _, f := range []int{0, api.Public, api.Public | api.Super, api.Interface | api.AbstractFl, api.Public | api.Interface | api.AbstractFl, api.Public | api.Final | api.Super, api.Final, api.AbstractFl, api.AbstractFl | api.Super} {
		if e := CheckClass(f); e != api.OK {
			t.Errorf("CheckClass(%#x) = %d", f, e)
		}
	}
	for _, f := range []int{api.Interface, api.Final | api.AbstractFl, api.Static, -1, api.Private, api.Protected, api.Interface | api.AbstractFl | api.Super, api.Interface | api.AbstractFl | api.Final, api.Interface | api.Super, math.MaxInt, math.MinInt, 0x40, 0x800, api.Public | 0x100} {
		if e := CheckClass(f); e != api.ErrForm {
			t.Errorf("CheckClass(%#x) = %d", f, e)
		}
	}
}

// classFits says P3.1 a second time, by the words of a set.
func classFits(f int, sets map[int]string) bool {
	text, known := sets[f]
	if !known {
		return false
	}
	has := func(word string) bool { return strings.Contains(text, word) }
	if has("interface") {
		return has("abstract") && !has("final") && !has("super")
	}
	return !(has("final") && has("abstract"))
}

func TestCheckClassOfEverySet(t *testing.T) {
	sets := setsOf(ofClasses)
	fit := 0
	for _, f := range anyInts() {
		want := api.ErrForm
		if classFits(f, sets) {
			want = api.OK
			fit++
		}
		if e := CheckClass(f); e != want {
			t.Errorf("CheckClass(%#x) = %d, want %d", f, e, want)
		}
	}
	// Of two to the fourth sets without interface those twelve without final and abstract at once; of the others two, public or not.
	if fit != 14 {
		t.Errorf("%d sets fit a class", fit)
	}
}

// P3.2

func TestCheckMethodExamples(t *testing.T) {
	for _, c := range []struct {
		f     int
		iface bool
		name  string
		want  api.Errno
	}{
		{0, false, "m", api.OK}, {0, true, "m", api.ErrForm},
		{api.Public | api.Private, false, "m", api.ErrForm}, {api.Public | api.Private, true, "m", api.ErrForm},
		{api.Public | api.Protected, false, "m", api.ErrForm}, {api.Private | api.Protected, false, "m", api.ErrForm}, {api.Public | api.Private | api.Protected, false, "m", api.ErrForm},
		{api.AbstractFl | api.Static, false, "m", api.ErrForm}, {api.AbstractFl | api.Private, false, "m", api.ErrForm}, {api.AbstractFl | api.Final, false, "m", api.ErrForm},
		{api.AbstractFl | api.Protected, false, "m", api.OK}, {api.AbstractFl, false, "m", api.OK}, {api.AbstractFl | api.Public, true, "m", api.OK}, {api.AbstractFl, true, "m", api.ErrForm},
		{api.Public | api.Static, true, "m", api.OK}, {api.Private, true, "m", api.OK}, {api.Private | api.Static, true, "m", api.OK}, {api.Static, true, "m", api.ErrForm},
		{api.Protected, true, "m", api.ErrForm}, {api.Public | api.Final, true, "m", api.ErrForm}, {api.Private | api.Final, true, "m", api.ErrForm},
		{api.Public, false, "<init>", api.OK}, {0, false, "<init>", api.OK}, {api.Private, false, "<init>", api.OK}, {api.Protected, false, "<init>", api.OK},
		{api.Public | api.Static, false, "<init>", api.ErrForm}, {api.Final, false, "<init>", api.ErrForm}, {api.AbstractFl, false, "<init>", api.ErrForm},
		{api.Public, true, "<init>", api.ErrForm}, {api.Private, true, "<init>", api.ErrForm}, {api.Public | api.AbstractFl, true, "<init>", api.ErrForm},
		{api.Super, false, "m", api.ErrForm}, {api.Interface, true, "m", api.ErrForm}, {-1, false, "m", api.ErrForm}, {math.MaxInt, true, "m", api.ErrForm}, {math.MinInt, false, "m", api.ErrForm},
	} {
		if e := CheckMethod(c.f, c.iface, c.name); e != c.want {
			t.Errorf("CheckMethod(%#x, %v, %q) = %d, want %d", c.f, c.iface, c.name, e, c.want)
		}
	}
}

// methodFits says P3.2 a second time, by the words of a set.
func methodFits(f int, iface bool, name string, sets map[int]string) bool {
	text, known := sets[f]
	if !known {
		return false
	}
	count := func(some ...string) int {
		n := 0
		for _, word := range some {
			n += strings.Count(" "+text+" ", " "+word+" ")
		}
		return n
	}
	if count("public", "private", "protected") > 1 {
		return false
	}
	if count("abstract") == 1 && count("private", "static", "final") > 0 {
		return false
	}
	if iface {
		return count("public", "private") == 1 && count("protected", "final") == 0 && name != "<init>"
	}
	return name != "<init>" || count("static", "final", "abstract") == 0
}

func TestCheckMethodOfEverySet(t *testing.T) {
	sets := setsOf(ofMethods)
	for _, name := range []string{"m", "<init>", "", "<clinit>", "<init> ", " <init>", "<INIT>", "<init", "init", "<init>\x00", "\xff\xfe", strings.Repeat("<init>", 1000)} {
		for _, iface := range []bool{false, true} {
			for _, f := range anyInts() {
				want := api.ErrForm
				if methodFits(f, iface, name, sets) {
					want = api.OK
				}
				if e := CheckMethod(f, iface, name); e != want {
					t.Errorf("CheckMethod(%#x, %v, %q) = %d, want %d", f, iface, name, e, want)
				}
			}
		}
	}
}

// P3.3 and P3.4: both kinds go through the same tests.

type kind struct {
	name  string
	list  []named
	text  func(int) (string, api.Errno)
	parse func(string) (int, api.Errno)
}

func kinds() []kind {
	return []kind{
		{"Class", ofClasses, ClassText, ParseClass},
		{"Method", ofMethods, MethodText, ParseMethod},
	}
}

func TestTextExamples(t *testing.T) {
	for f, want := range map[int]string{api.Public | api.Super: "public super", 0: "", api.AbstractFl | api.Interface | api.Super | api.Final | api.Public: "public final super interface abstract", api.AbstractFl | api.Final: "final abstract"} {
		if s, e := ClassText(f); s != want || e != api.OK {
			t.Errorf("ClassText(%#x) = %q, %d", f, s, e)
		}
	}
	for f, want := range map[int]string{api.Public | api.Static | api.Final: "public static final", 0: "", api.AbstractFl | api.Final | api.Static | api.Protected | api.Private | api.Public: "public private protected static final abstract"} {
		if s, e := MethodText(f); s != want || e != api.OK {
			t.Errorf("MethodText(%#x) = %q, %d", f, s, e)
		}
	}
	for _, f := range []int{api.Static, api.Private, api.Protected, -1, math.MinInt, math.MaxInt, api.Public | 0x40, 0x100, 0x800} {
		if s, e := ClassText(f); s != "" || e != api.ErrForm {
			t.Errorf("ClassText(%#x) = %q, %d", f, s, e)
		}
	}
	for _, f := range []int{api.Super, api.Interface, -1, math.MinInt, math.MaxInt, api.Public | 0x80, 0x800} {
		if s, e := MethodText(f); s != "" || e != api.ErrForm {
			t.Errorf("MethodText(%#x) = %q, %d", f, s, e)
		}
	}
}

func TestTextOfEverySet(t *testing.T) {
	for _, k := range kinds() {
		sets := setsOf(k.list)
		for _, f := range anyInts() {
			want, known := sets[f]
			wantErr := api.OK
			if !known {
				wantErr = api.ErrForm
			}
			if s, e := k.text(f); s != want || e != wantErr {
				t.Errorf("%sText(%#x) = %q, %d, want %q, %d", k.name, f, s, e, want, wantErr)
			}
		}
	}
}

func TestParseExamples(t *testing.T) {
	if f, e := ParseMethod("private abstract"); f != api.Private|api.AbstractFl || e != api.OK {
		t.Errorf("ParseMethod = %#x, %d", f, e)
	}
	if f, e := ParseClass("public super"); f != api.Public|api.Super || e != api.OK {
		t.Errorf("ParseClass = %#x, %d", f, e)
	}
	for _, k := range kinds() {
		if f, e := k.parse(""); f != 0 || e != api.OK {
			t.Errorf("Parse%s of the empty text = %#x, %d", k.name, f, e)
		}
		for _, s := range []string{
			" ", "  ", "public ", " public", " public ", "public  final", "final public", "public public", "public final public", "abstract final", "abstract abstract",
			"Public", "PUBLIC", "pUblic", "publi", "ublic", "publicx", "publicfinal", "p", "native", "0", "1", "public 1",
			"public\tfinal", "public\nfinal", "public\n", "\npublic", "public,final", "public\x00", "\x00", "public\xa0final", "public\u00a0final", "\xff", "p\u00fcblic", "public final\r",
		} {
			if f, e := k.parse(s); f != 0 || e != api.ErrText {
				t.Errorf("Parse%s(%q) = %#x, %d", k.name, s, f, e)
			}
		}
	}
}

func TestParseOfTheOtherKindsWords(t *testing.T) {
	for _, s := range []string{"static", "private", "protected", "public static", "public private", "static final", "protected abstract"} {
		if f, e := ParseClass(s); f != 0 || e != api.ErrText {
			t.Errorf("ParseClass(%q) = %#x, %d", s, f, e)
		}
	}
	for _, s := range []string{"super", "interface", "public super", "super abstract", "public interface abstract"} {
		if f, e := ParseMethod(s); f != 0 || e != api.ErrText {
			t.Errorf("ParseMethod(%q) = %#x, %d", s, f, e)
		}
	}
}

// parsesRight holds Parse against the texts of all sets: taken is each of them, and nothing else.
func parsesRight(t *testing.T, k kind, texts map[string]int, s string) {
	t.Helper()
	want, known := texts[s]
	wantErr := api.OK
	if !known {
		wantErr = api.ErrText
	}
	f, e := k.parse(s)
	if f != want || e != wantErr {
		t.Errorf("Parse%s(%q) = %#x, %d, want %#x, %d", k.name, s, f, e, want, wantErr)
	}
	if e != api.OK {
		return
	}
	if back, e := k.text(f); back != s || e != api.OK {
		t.Errorf("%sText(%#x) = %q, %d, want %q", k.name, f, back, e, s)
	}
}

func TestParseOfEveryRowOfWords(t *testing.T) {
	all := []string{"", "public", "private", "protected", "static", "final", "super", "interface", "abstract", "publi"}
	rows := []string{}
	last := all
	for range 4 {
		rows = append(rows, last...)
		var next []string
		for _, head := range last {
			for _, word := range all {
				next = append(next, head+" "+word)
			}
		}
		last = next
	}
	for _, k := range kinds() {
		texts := textsOf(k.list)
		for _, s := range rows {
			parsesRight(t, k, texts, s)
		}
	}
}

func TestParseOfEverySetAndItsNeighbours(t *testing.T) {
	for _, k := range kinds() {
		texts := textsOf(k.list)
		for s := range texts {
			parsesRight(t, k, texts, s)
			for i := range len(s) {
				parsesRight(t, k, texts, s[:i])
				parsesRight(t, k, texts, s[i:])
				parsesRight(t, k, texts, s[:i]+s[i+1:])
				parsesRight(t, k, texts, s[:i]+strings.ToUpper(s[i:i+1])+s[i+1:])
				for _, b := range []string{" ", "  ", "\t", "\n", "\x00", "\xff", s[i : i+1], "x"} {
					parsesRight(t, k, texts, s[:i]+b+s[i:])
					parsesRight(t, k, texts, s[:i]+b+s[i+1:])
				}
			}
			parsesRight(t, k, texts, s+" ")
			parsesRight(t, k, texts, s+"\n")
			parsesRight(t, k, texts, s+"\x00")
		}
	}
}

func TestParseOfAnyBytes(t *testing.T) {
	source := rand.New(rand.NewSource(3))
	for _, k := range kinds() {
		texts := textsOf(k.list)
		for a := range 256 {
			parsesRight(t, k, texts, string([]byte{byte(a)}))
			for b := range 256 {
				parsesRight(t, k, texts, string([]byte{byte(a), byte(b)}))
			}
		}
		for range 20000 {
			bytes := make([]byte, source.Intn(30))
			source.Read(bytes)
			parsesRight(t, k, texts, string(bytes))
		}
		for _, s := range []string{strings.Repeat(" ", 100000), strings.Repeat("public ", 100000), strings.Repeat("public", 100000), "public" + strings.Repeat(" final", 50000), strings.Repeat("\xff", 100000)} {
			parsesRight(t, k, texts, s)
		}
	}
}

// P3.5

func TestOpenExamples(t *testing.T) {
	for f, want := range map[int]int{
		api.Public | api.Private: api.Public, api.Protected | api.Static: api.Protected, api.Static: 0, -1: api.Public, 0: 0,
		api.Protected | api.Private: api.Protected, api.Public | api.Protected: api.Public, api.Public | api.Protected | api.Private: api.Public,
		api.Private: api.Private, api.Private | api.AbstractFl: api.Private, -2: api.Protected, -6: api.Private, -8: 0,
		math.MaxInt: api.Public, math.MinInt: 0, math.MinInt | api.Private: api.Private, math.MinInt | api.Protected | api.Private: api.Protected, 1 << 40: 0, 1<<40 | api.Public: api.Public,
	} {
		if o := Open(f); o != want {
			t.Errorf("Open(%#x) = %#x, want %#x", f, o, want)
		}
	}
}

func TestOpenPassesOverOtherBits(t *testing.T) {
	// By the low three bits: none, Public, Private, both, Protected, and so on.
	wants := [8]int{0, 1, 2, 1, 4, 1, 4, 1}
	for _, f := range anyInts() {
		if o := Open(f); o != wants[f&7] {
			t.Errorf("Open(%#x) = %#x, want %#x", f, o, wants[f&7])
		}
	}
}

// R8

func TestTheSameAnswerEachTime(t *testing.T) {
	for _, k := range kinds() {
		for s, f := range textsOf(k.list) {
			for range 3 {
				if got, _ := k.parse(s); got != f {
					t.Errorf("Parse%s(%q) = %#x, want %#x", k.name, s, got, f)
				}
				if got, _ := k.text(f); got != s {
					t.Errorf("%sText(%#x) = %q, want %q", k.name, f, got, s)
				}
			}
		}
	}
}
