package names

import (
	"regexp"
	"slices"
	"strings"
	"testing"

	"arbiter/api"
)

// The patterns say P1.1 and P1.2 a second time, by other means than the package.
var (
	partPattern  = regexp.MustCompile(`\A[a-zA-Z_$][a-zA-Z_$0-9]*\z`)
	classPattern = regexp.MustCompile(`\A[a-zA-Z_$][a-zA-Z_$0-9]*(/[a-zA-Z_$][a-zA-Z_$0-9]*)*\z`)
)

// oddTexts are texts of any bytes, with the edges that the document names.
func oddTexts() []string {
	return []string{
		"", "/", "//", "///", "/A", "A/", "p//A", "//A", "A//", "p/1", "p.A", "p-A", "p A", " A", "A ", "A\n", "\x00", "A\x00", "\x80", "\xff", "é", "Aé", "日本", "\xc3",
		"<init>", "<clinit>", "p/<init>", "<init>/p", "<init", "init>", "<INIT>", "<init> ",
		"A", "Object", "p/q/A", "$a/_1", "a1", "1", "1a", "_", "$", "[A", "LA;", "\\A", "p\\A",
		strings.Repeat("a", api.MaxName), strings.Repeat("a", api.MaxName+1),
		strings.Repeat("a/", api.MaxName/2), strings.Repeat("a/", api.MaxName/2) + "a", strings.Repeat("a/", api.MaxName/2-1) + "aa", strings.Repeat("a/", api.MaxName/2-1) + "a",
		strings.Repeat("/", api.MaxName), strings.Repeat("/", 5000), strings.Repeat("p/", 5000), strings.Repeat("x", 100000),
	}
}

// shortTexts are all texts of at most most bytes of the alphabet.
func shortTexts(alphabet string, most int) []string {
	all := []string{""}
	from := 0
	for range most {
		to := len(all)
		for _, head := range all[from:to] {
			for i := range len(alphabet) {
				all = append(all, head+alphabet[i:i+1])
			}
		}
		from = to
	}
	return all
}

// P1.1

func TestValidExamples(t *testing.T) {
	for _, name := range []string{"Object", "p/q/A", "$a/_1", "a", "Z", "_", "$", "a9", "A/b/C/d"} {
		if !Valid(name) {
			t.Errorf("Valid(%q) = false", name)
		}
	}
	for _, name := range []string{"", "/A", "p//A", "p/1", "p.A", "A/", "/", "//", "1", "0a", "p/0a", "<init>", "p/<init>", "é", "A\xff", "A\x00", "A\n"} {
		if Valid(name) {
			t.Errorf("Valid(%q) = true", name)
		}
	}
}

func TestValidAtTheLimit(t *testing.T) {
	for _, fill := range []string{"a", "p/a", "$_9/Z"} {
		tail := api.MaxName - len(fill)
		if name := fill + strings.Repeat("a", tail); !Valid(name) {
			t.Errorf("Valid(%q) = false at %d bytes", name, len(name))
		}
		if name := fill + strings.Repeat("a", tail+1); Valid(name) {
			t.Errorf("Valid(%q) = true at %d bytes", name, len(name))
		}
	}
}

func TestValidCountsBytesOfTheWholeName(t *testing.T) {
	if name := strings.Repeat("a/", 29) + "aa"; len(name) != api.MaxName || !Valid(name) {
		t.Errorf("Valid(%q) = false", name)
	}
	if name := strings.Repeat("a/", 30) + "a"; Valid(name) {
		t.Errorf("Valid(%q) = true", name)
	}
}

func TestValidOfEachByte(t *testing.T) {
	for i := range 256 {
		b := string([]byte{byte(i)})
		letter := strings.Contains("abcdefghijklmnopqrstuvwxyzABCDEFGHIJKLMNOPQRSTUVWXYZ_$", b)
		digit := strings.Contains("0123456789", b)
		for _, name := range []string{b, b + "a", "p/" + b, "p/" + b + "a"} {
			if got := Valid(name); got != letter {
				t.Errorf("Valid(%q) = %t", name, got)
			}
		}
		if name := "a" + b; Valid(name) != (letter || digit) {
			t.Errorf("Valid(%q) = %t", name, Valid(name))
		}
		if name := "a" + b + "a"; Valid(name) != (letter || digit || b == "/") {
			t.Errorf("Valid(%q) = %t", name, Valid(name))
		}
	}
}

func TestValidAsThePattern(t *testing.T) {
	for _, name := range append(shortTexts("aZ_$0/.<", 5), oddTexts()...) {
		want := len(name) <= api.MaxName && classPattern.MatchString(name)
		if got := Valid(name); got != want {
			t.Errorf("Valid(%q) = %t", name, got)
		}
	}
}

// P1.2

func TestMemberExamples(t *testing.T) {
	for _, name := range []string{"m", "<init>", "_", "$1", "M9", "init", strings.Repeat("m", api.MaxName)} {
		if !Member(name) {
			t.Errorf("Member(%q) = false", name)
		}
	}
	for _, name := range []string{"a/b", "<clinit>", "", "/", "/m", "m/", "9", "1m", "<init", "init>", "<init>a", "a<init>", "<INIT>", "<>", "m-", "é", "m\xff", strings.Repeat("m", api.MaxName+1)} {
		if Member(name) {
			t.Errorf("Member(%q) = true", name)
		}
	}
}

func TestMemberAsThePattern(t *testing.T) {
	for _, name := range append(shortTexts("aZ_$0/.<", 5), oddTexts()...) {
		want := name == "<init>" || len(name) <= api.MaxName && partPattern.MatchString(name)
		if got := Member(name); got != want {
			t.Errorf("Member(%q) = %t", name, got)
		}
	}
}

func TestMemberOfEachByte(t *testing.T) {
	for i := range 256 {
		b := string([]byte{byte(i)})
		for _, name := range []string{b, b + "m", "m" + b, "m" + b + "m"} {
			if got := Member(name); got != partPattern.MatchString(name) {
				t.Errorf("Member(%q) = %t", name, got)
			}
		}
	}
}

// P1.3

func TestPackageAndSimpleExamples(t *testing.T) {
	for _, c := range []struct{ name, pkg, simple string }{
		{"p/q/A", "p/q", "A"},
		{"p/A", "p", "A"},
		{"A", "", "A"},
		{"/A", "", "A"},
		{"A/", "A", ""},
		{"", "", ""},
		{"/", "", ""},
		{"//", "/", ""},
		{"p//A", "p/", "A"},
		{"//A", "/", "A"},
		{"<init>", "", "<init>"},
		{"p/<init>", "p", "<init>"},
		{"p.A/\xff\x00", "p.A", "\xff\x00"},
		{"\xc3/\xa9", "\xc3", "\xa9"},
		{"日/本", "日", "本"},
		{strings.Repeat("a", 100) + "/" + strings.Repeat("b", 200), strings.Repeat("a", 100), strings.Repeat("b", 200)},
	} {
		if got := Package(c.name); got != c.pkg {
			t.Errorf("Package(%q) = %q", c.name, got)
		}
		if got := Simple(c.name); got != c.simple {
			t.Errorf("Simple(%q) = %q", c.name, got)
		}
	}
}

func TestPackageAndSimpleMakeTheName(t *testing.T) {
	for _, name := range append(shortTexts("a1/\xff", 5), oddTexts()...) {
		pkg, simple := Package(name), Simple(name)
		if strings.Contains(simple, "/") {
			t.Errorf("Simple(%q) = %q", name, simple)
		}
		want := simple
		if strings.Contains(name, "/") {
			want = pkg + "/" + simple
		} else if pkg != "" {
			t.Errorf("Package(%q) = %q", name, pkg)
		}
		if want != name {
			t.Errorf("%q is cut into %q and %q", name, pkg, simple)
		}
	}
}

// P1.4

func TestPartsExamples(t *testing.T) {
	for _, c := range []struct {
		name string
		want []string
	}{
		{"p/A", []string{"p", "A"}},
		{"p/q/A", []string{"p", "q", "A"}},
		{"A", []string{"A"}},
		{"", []string{""}},
		{"/", []string{"", ""}},
		{"//", []string{"", "", ""}},
		{"/A", []string{"", "A"}},
		{"A/", []string{"A", ""}},
		{"p//A", []string{"p", "", "A"}},
		{"\xff/\x00/é", []string{"\xff", "\x00", "é"}},
		{"p.q/<init>", []string{"p.q", "<init>"}},
		{"\\/", []string{"\\", ""}},
	} {
		if got := Parts(c.name); !slices.Equal(got, c.want) {
			t.Errorf("Parts(%q) = %q", c.name, got)
		}
	}
}

func TestPartsAreOneMoreThanSeparators(t *testing.T) {
	for _, name := range append(shortTexts("a1/\xff", 5), oddTexts()...) {
		got := Parts(name)
		if len(got) != strings.Count(name, "/")+1 {
			t.Errorf("Parts(%q) has %d texts", name, len(got))
		}
		if strings.Join(got, "/") != name || slices.ContainsFunc(got, func(part string) bool { return strings.Contains(part, "/") }) {
			t.Errorf("Parts(%q) = %q", name, got)
		}
	}
}

// R4, R8

func TestPartsAreNewMemory(t *testing.T) {
	for _, name := range []string{"p/q/A", "A", "", "/"} {
		want := strings.Split(name, "/")
		first, second := Parts(name), Parts(name)
		for i := range first {
			first[i] = "written over"
		}
		_ = append(first[:1], "grown", "grown")
		if !slices.Equal(second, want) || !slices.Equal(Parts(name), want) {
			t.Errorf("Parts(%q) turned into %q, %q", name, second, Parts(name))
		}
	}
}

// P1.5

func TestJoinExamples(t *testing.T) {
	for _, parts := range [][]string{{"p", "A"}, {"A"}, {"p", "q", "A"}, {"$a", "_1"}, {"_", "_", "_"}} {
		if got, err := Join(parts); got != strings.Join(parts, "/") || err != api.OK {
			t.Errorf("Join(%q) = %q, %d", parts, got, err)
		}
	}
}

func TestJoinRefuses(t *testing.T) {
	for _, parts := range [][]string{
		nil, {}, {""}, {"", ""}, {"p", ""}, {"", "A"}, {"p", "", "A"}, {"a/b"}, {"p", "a/b"}, {"/"}, {"p/"}, {"/p"},
		{"1"}, {"p", "1"}, {"1", "p"}, {"1a"}, {"<init>"}, {"p", "<init>"}, {"p.q"}, {"p", "q-"}, {" "}, {"\x00"}, {"\xff"}, {"é"}, {"p", "A\n"},
		make([]string, 100000), slices.Repeat([]string{"a"}, 100000), {strings.Repeat("a", 100000)},
	} {
		if got, err := Join(parts); got != "" || err != api.ErrForm {
			t.Errorf("Join of %d parts = %q, %d", len(parts), got, err)
		}
	}
}

func TestJoinAtTheLimit(t *testing.T) {
	long := func(n int) string { return strings.Repeat("a", n) }
	for _, c := range []struct {
		parts []string
		fits  bool
	}{
		{[]string{long(60)}, true},
		{[]string{long(61)}, false},
		{[]string{long(30), long(29)}, true},
		{[]string{long(30), long(30)}, false},
		{[]string{long(29), long(30)}, true},
		{[]string{long(1), long(59)}, false},
		{[]string{long(20), long(20), long(18)}, true},
		{[]string{long(20), long(20), long(19)}, false},
		{slices.Repeat([]string{"a"}, 30), true},
		{append(slices.Repeat([]string{"a"}, 29), "aa"), true},
		{append(slices.Repeat([]string{"a"}, 29), "aaa"), false},
		{slices.Repeat([]string{"a"}, 31), false},
	} {
		got, err := Join(c.parts)
		if c.fits && (got != strings.Join(c.parts, "/") || err != api.OK) {
			t.Errorf("Join(%q) = %q, %d", c.parts, got, err)
		}
		if !c.fits && (got != "" || err != api.ErrForm) {
			t.Errorf("Join(%q) = %q, %d", c.parts, got, err)
		}
	}
}

func TestJoinOfEachByte(t *testing.T) {
	for i := range 256 {
		b := string([]byte{byte(i)})
		for _, part := range []string{b, b + "a", "a" + b, "a" + b + "a"} {
			got, err := Join([]string{"p", part})
			if partPattern.MatchString(part) && (got != "p/"+part || err != api.OK) {
				t.Errorf("Join(p, %q) = %q, %d", part, got, err)
			}
			if !partPattern.MatchString(part) && (got != "" || err != api.ErrForm) {
				t.Errorf("Join(p, %q) = %q, %d", part, got, err)
			}
		}
	}
}

func TestJoinTurnsPartsBack(t *testing.T) {
	for _, name := range append(shortTexts("aZ_$0/.<", 5), oddTexts()...) {
		got, err := Join(Parts(name))
		if Valid(name) && (got != name || err != api.OK) {
			t.Errorf("Join(Parts(%q)) = %q, %d", name, got, err)
		}
		if !Valid(name) && (got != "" || err != api.ErrForm) {
			t.Errorf("Join(Parts(%q)) = %q, %d", name, got, err)
		}
	}
}

func TestJoinLeavesItsListAlone(t *testing.T) {
	for _, parts := range [][]string{{"p", "q", "A"}, {"p"}, {"p", "", "A"}, {"1", "p"}, {strings.Repeat("a", 61), "b"}} {
		memory := append(slices.Clone(parts), "behind", "behind")
		before := slices.Clone(memory)
		handed := memory[:len(parts)]
		first, firstErr := Join(handed)
		if !slices.Equal(memory, before) {
			t.Errorf("Join(%q) left %q", parts, memory)
		}
		told := strings.Clone(first)
		clear(memory)
		if first != told {
			t.Errorf("Join(%q) turned from %q into %q", parts, told, first)
		}
		if again, err := Join(parts); again != first || err != firstErr {
			t.Errorf("Join(%q) = %q, %d, then %q, %d", parts, first, firstErr, again, err)
		}
	}
}

// P1.6

func TestCompareExamples(t *testing.T) {
	for _, c := range []struct {
		a, b string
		want int
	}{
		{"p/A", "p/B", -1},
		{"p", "p/A", -1},
		{"p/A", "p-A", -1},
		{"b", "a/z", 1},
		{"x", "x", 0},
		{"p/q/A", "p/q/A", 0},
		{"", "", 0},
		{"", "/", -1},
		{"", "a", -1},
		{"/", "//", -1},
		{"/b", "a", -1},
		{"a", "a/", -1},
		{"a/b", "a!/b", -1},
		{"a/z", "a!", -1},
		{"a/z", "aa", -1},
		{"Z", "a", -1},
		{"a1", "aA", -1},
		{"\x7f", "\x80", -1},
		{"é", "\xff", -1},
		{"z/\xff", "z/\x00", 1},
		{"A", "A\x00", -1},
		{"A/q", "A\x00", -1},
	} {
		if got := Compare(c.a, c.b); got != c.want {
			t.Errorf("Compare(%q, %q) = %d", c.a, c.b, got)
		}
		if got := Compare(c.b, c.a); got != -c.want {
			t.Errorf("Compare(%q, %q) = %d", c.b, c.a, got)
		}
	}
}

// compareByRank is P1.6 by other means: a / counts below each other byte, and an end below a /.
func compareByRank(a, b string) int {
	rank := func(text string, place int) int {
		switch {
		case place >= len(text):
			return 0
		case text[place] == '/':
			return 1
		}
		return 2 + int(text[place])
	}
	for place := range max(len(a), len(b)) {
		switch x, y := rank(a, place), rank(b, place); {
		case x < y:
			return -1
		case x > y:
			return 1
		}
	}
	return 0
}

func TestCompareOfAllPairs(t *testing.T) {
	all := append(shortTexts("a!0/\xff", 3), oddTexts()...)
	for _, a := range all {
		for _, b := range all {
			got := Compare(a, b)
			if got != compareByRank(a, b) {
				t.Fatalf("Compare(%q, %q) = %d", a, b, got)
			}
			if (got == 0) != (a == b) {
				t.Fatalf("Compare(%q, %q) = %d", a, b, got)
			}
		}
	}
}

// P0.1, R3: every call takes every text, and the same question has the same answer.

func TestOddTextsEnd(t *testing.T) {
	for _, text := range oddTexts() {
		if Valid(text) != Valid(text) || Member(text) != Member(text) || Package(text) != Package(text) || Simple(text) != Simple(text) {
			t.Errorf("two answers of %q", text)
		}
		got, err := Join([]string{text})
		if (err == api.OK) != partPattern.MatchString(text) && len(text) <= api.MaxName {
			t.Errorf("Join(%q) = %q, %d", text, got, err)
		}
		if err != api.OK && got != "" {
			t.Errorf("Join(%q) = %q beside %d", text, got, err)
		}
	}
}
