package driver

import (
	"fmt"
	"slices"
	"strings"
	"testing"

	"arbiter/api"
)

// within are lines of a class, up to its end, with a question behind them.
func within(all ...string) string {
	return "define\n" + lines(all...) + "end\nbelow I I\n"
}

func TestDefine(t *testing.T) { // P24.1: classes that arrive
	says(t, example("A")+example("B")+example("p/q/C"), "defined 3", "defined 4", "defined 5")
	says(t, class("A", "Object")+class("B", "A")+iface("I")+of(class("C", "B"), "I"), "defined 3", "defined 4", "defined 5", "defined 6")
	says(t, example("A")+"chain A\nselect virtual A.m()I A from Object\nmethods A\n", "defined 3", "A", "Object", "A.m()I", "A.m()I")
	says(t, "chain A\n"+example("A")+"chain A\n", "error 20", "defined 3", "A", "Object")
	says(t, "# x\n\n"+example("A")+"\n# x\n"+example("B"), "defined 3", "defined 4")
	// Loaders and packages are those of the lines.
	says(t, by("9", example("p/A"))+flagged("super", by("9", class("p/B", "p/A")))+by("9", class("p/C", "p/B"))+class("p/D", "p/B"), "defined 3", "defined 4", "defined 5", "error 22")
}

func TestDefineIsAlone(t *testing.T) { // P24.1: a line that begins no class leaves the lines behind it what they are
	for _, line := range []string{"define ", "define  ", "define x", "define A", "define define", "define end", "define # x", "define 3", "define \r", "define \x00", "define class A"} {
		says(t, line+"\nchain Object\nend\n", "error 4", "Object", "error 8")
		says(t, line+"\n"+example("A")+line+"\n"+example("B"), "error 4", "defined 3", "error 4", "defined 4")
		says(t, line, "error 4")
	}
}

func TestEndAtOnce(t *testing.T) { // P24.1
	says(t, "define\nend\n", "error 4 at 1")
	says(t, "define\nend", "error 4 at 1")
	says(t, "define\nend\nend\n", "error 4 at 1", "error 8")
	says(t, "define\nend\nchain Object\n"+example("A"), "error 4 at 1", "Object", "defined 3")
}

// TestAnyLinesWithin: all lines stand in the text, whatever they are elsewhere.
func TestAnyLinesWithin(t *testing.T) { // P24.1
	for _, line := range []string{"", " ", "#", "# x", "define", "define ", "cache 2", "cache", "run A.f()V fuel 5", "chain Object", "chains", "ends", "End", "END", "end ", " end", "end\r", "end\x00", "\tend", "#end", "end end", "\xff", strings.Repeat("x", 2000), strings.Repeat("x", 2001), strings.Repeat("#", 5000), upTo(2001, "end", " ")} {
		says(t, within(line), "error 4 at 1", "yes")
		says(t, within("class A", line), "error 4 at 2", "yes")
		says(t, within("class A", "super Object", "flags public super", line, "loader 0"), "error 4 at 4", "yes")
		says(t, within("class A", "super Object", "flags public super", "loader 0", line), "error 4 at 5", "yes")
		says(t, within(line, line, line), "error 4 at 1", "yes")
		if got := Run(within(line) + example("A")); got != "error 4 at 1\nyes\ndefined 3\n" {
			t.Errorf("behind a class of %s: %q", show(line), got)
		}
	}
	// The first line that is end is the last one, also where another stands behind it.
	says(t, "define\nclass A\nend\nend\nend\n", "error 4 at 2", "error 8", "error 8")
	says(t, "define\ndefine\nend\nend\n", "error 4 at 1", "error 8")
	says(t, strings.Replace(example("A"), "loader 0\n", "loader 0\nend\n", 1), "defined 3", "error 8", "error 8", "error 8", "error 8", "error 8", "error 8")
}

// longMethod is a method whose line has more than MaxLine bytes, and which is sound.
func longMethod() string {
	args := ""
	for n := range api.MaxArgs {
		dims := 97
		if n == 0 {
			dims += 2000 - 20*98 - 3
		}
		args += strings.Repeat("[", dims) + "I"
	}
	return strings.Replace(method("m ("+args+")V public", "return"), "locals 8", "locals 21", 1)
}

func TestLongLinesWithin(t *testing.T) { // P24.1: those of more than MaxLine bytes are lines of a class as well
	text := class("A", "Object", longMethod())
	if line := strings.Split(longMethod(), "\n")[0]; len(line) <= api.MaxLine {
		t.Fatalf("a line of %d bytes", len(line))
	}
	says(t, text+"methods A\n", "defined 3", "A.m"+strings.Fields(longMethod())[2])
	// What the same line answers elsewhere.
	says(t, longMethod(), "error 5", "error 8", "error 8", "error 8")
}

func TestLargeTexts(t *testing.T) { // P24.1: the error of shapes.Parse without a line
	begin := "class A\nsuper Object\nflags public super\nloader 0\n"
	filled := func(size int) string {
		// A body of many short lines, then one that makes up the size; none of them may stand there.
		return begin + strings.Repeat("x\n", 200) + upTo(size-len(begin)-400-len("\nend\n"), "", "y") + "\n"
	}
	for size, want := range map[int]string{api.MaxShape - 1: "error 4 at 5", api.MaxShape: "error 4 at 5", api.MaxShape + 1: "error 5 at 0", api.MaxShape + 2: "error 5 at 0", 3 * api.MaxShape: "error 5 at 0"} {
		if text := filled(size); len(text)+len("end\n") != size {
			t.Fatalf("%d bytes, wanted %d", len(text)+len("end\n"), size)
		}
		says(t, "define\n"+filled(size)+"end\nbelow I I\n", want, "yes")
		says(t, "define\n"+filled(size)+"end", want)
	}
}

// sizedClass is sound, and its text has just so many bytes.
func sizedClass(name string, size int) string {
	var methods []string
	code := func(gotos int) string { return strings.Repeat("goto 0, ", gotos) + "return" }
	left := func(more ...string) int {
		return size - len(class(name, "Object", append(slices.Clone(methods), more...)...)) + len("define\n")
	}
	for left() > 1400 {
		methods = append(methods, method(fmt.Sprint("m", len(methods), " ()V public"), code(180)))
	}
	// The last one's name makes up for what its code does not.
	room := left(method("x ()V public", code(0)))
	last := method(upTo(1+room%7, "x", "x")+" ()V public", code(room/7))
	return class(name, "Object", append(methods, last)...)
}

func TestTextsOfMaxShapeBytes(t *testing.T) { // P24.1: sound classes as large as there may be, and a byte larger
	for _, one := range []struct {
		size int
		want string
	}{{api.MaxShape - 1, "defined 3"}, {api.MaxShape, "defined 3"}, {api.MaxShape + 1, "error 5 at 0"}, {api.MaxShape + 2, "error 5 at 0"}} {
		text := sizedClass("A", one.size)
		if got := len(text) - len("define\n"); got != one.size {
			t.Fatalf("%d bytes, wanted %d", got, one.size)
		}
		says(t, text+"below I I\n", one.want, "yes")
		says(t, strings.TrimSuffix(text, "\n"), one.want)
	}
}

func TestTextsThatAreRefused(t *testing.T) { // P24.1: by shapes.Parse, with a line and without one
	text := example("p/A")
	for turn, want := range map[[2]string]string{
		{"class p/A", "class"}:                             "error 4 at 1",
		{"class p/A", "class p/A B"}:                       "error 4 at 1",
		{"class p/A", "Class p/A"}:                         "error 4 at 1",
		{"super Object", "super"}:                          "error 4 at 2",
		{"super Object\n", ""}:                             "error 4 at 2",
		{"flags public super", "flags super public"}:       "error 4 at 3",
		{"flags public super", "flags "}:                   "error 4 at 3",
		{"loader 0", "loader 00"}:                          "error 4 at 4",
		{"loader 0", "loader x"}:                           "error 4 at 4",
		{"method m ()I public", "method m"}:                "error 4 at 5",
		{"locals 1", "locals -1"}:                          "error 4 at 6",
		{"stack 1", "stack 1 "}:                            "error 4 at 7",
		{"iconst 5", "iconst 05"}:                          "error 4 at 8",
		{"ireturn\n", "nop\n"}:                             "error 4 at 9",
		{"ireturn\n", "ireturn\n\n"}:                       "error 4 at 10",
		{"class p/A", "class p.A"}:                         "error 1 at 0",
		{"super Object", "super p/A"}:                      "error 1 at 0",
		{"loader 0", "loader 10"}:                          "error 1 at 0",
		{"locals 1", "locals 0"}:                           "error 1 at 0",
		{"locals 1", "locals 41"}:                          "error 1 at 0",
		{"stack 1", "stack 41"}:                            "error 1 at 0",
		{"flags public super", "flags"}:                    "defined 3",
		{"iconst 5", "goto 2"}:                             "error 1 at 0",
		{"()I public", "(I public"}:                        "error 1 at 0",
		{"()I public", "()I public abstract"}:              "error 1 at 0",
		{"super Object", "super Object\niface J\niface J"}: "error 1 at 0",
	} {
		turned := strings.Replace(text, turn[0], turn[1], 1)
		if turned == text {
			t.Fatalf("%q is not in the text", turn[0])
		}
		says(t, turned, want)
		says(t, strings.TrimSuffix(turned, "\n"), want)
	}
}

func TestClassesThatAreRefused(t *testing.T) { // P24.1: by Define
	town := example("A") + iface("I") + flagged("super", class("q/Shut", "Object")) + flagged("interface abstract", class("q/J", "Object"))
	began := []string{"defined 3", "defined 4", "defined 5", "defined 6"}
	table := []struct{ text, want string }{
		{class("A", "Object"), "error 25"},
		{class("Object", "A"), "error 25"},
		{iface("Cloneable"), "error 25"},
		{class("B", "No"), "error 20"},
		{class("B", "I"), "error 23"},
		{flagged("public interface abstract", class("B", "A")), "error 23"},
		{class("B", "q/Shut"), "error 22"},
		{of(class("B", "A"), "No"), "error 20"},
		{of(class("B", "A"), "A"), "error 23"},
		{of(class("B", "A"), "q/J"), "error 22"},
		// What is named first in chapter 6 is answered.
		{class("A", "No"), "error 25"},
		{of(class("B", "No"), "A"), "error 20"},
		{of(class("B", "I"), "No"), "error 23"},
		{of(class("B", "q/Shut"), "No"), "error 22"},
		{of(class("B", "A"), "q/J", "No"), "error 22"},
		{of(class("B", "A"), "No", "q/J"), "error 20"},
		// What shapes.Parse refuses does not come to Define.
		{by("10", class("A", "Object")), "error 1 at 0"},
		{by("00", class("A", "No")), "error 4 at 4"},
	}
	for _, one := range table {
		// A class that is refused has left nothing: another may have its name, and the next number.
		says(t, town+one.text+"chain B\n"+class("q/B", "q/Shut")+class("B", "A")+"chain B\n", slices.Concat(began, []string{one.want, "error 20", "defined 7", "defined 8", "B", "A", "Object"})...)
	}
}

func TestFullWorld(t *testing.T) { // P24.1: MaxClasses classes, and no more
	var script strings.Builder
	var want []string
	for n := 3; n < api.MaxClasses; n++ {
		script.WriteString(class(fmt.Sprint("C", n), "Object"))
		want = append(want, fmt.Sprint("defined ", n))
	}
	script.WriteString(class("B", "No") + class("C3", "Object") + by("10", class("B", "Object")) + class("B", "Object") + "chain C299\nchain B\n")
	says(t, script.String(), append(want, "error 5", "error 5", "error 1 at 0", "error 5", "C299", "Object", "error 20")...)
}

func TestEndsWithinAClass(t *testing.T) { // P24.1
	text := example("A")
	for at := len("define"); at < len(text)-len("\n"); at++ {
		begun := text[:at]
		want := []string{"error 4"}
		says(t, begun, want...)
		says(t, "chain Object\n"+begun, "Object", "error 4")
	}
	says(t, strings.TrimSuffix(text, "\n"), "defined 3")
	for _, begun := range []string{"define\n", "define", "define\n\n\n", "define\nend ", "define\nchain Object\n", "define\ndefine\n", "define\nen", "define\n" + strings.Repeat("x", 2001), "define\n" + strings.Repeat("x", 2001) + "\n", "define\n#end\n", "define\n# x"} {
		says(t, begun, "error 4")
		says(t, text+begun, "defined 3", "error 4")
		says(t, "chains\n"+text+"\n\n"+begun, "error 8", "defined 3", "error 4")
	}
}

func TestLastLine(t *testing.T) { // P24.1: without a byte 10
	for line, want := range map[string]string{"": "", "#": "", "chain Object": "Object", "chains": "error 8", "define x": "error 4", "cache 2": "cached", "cache 65": "error 7", "run A.f()V fuel 5": "thrown 20 spent 0", "run": "error 4", " ": "error 4", "end": "error 8", strings.Repeat("x", 2001): "error 5", "define": "error 4"} {
		for _, begin := range []string{"", "\n", "# x\n\n", example("B")} {
			began := []string{}
			if begin == example("B") {
				began = []string{"defined 3"}
			}
			says(t, begin+line, append(began, wanted(want)...)...)
		}
	}
}
