package driver

import (
	"fmt"
	"slices"
	"strings"
	"testing"

	"arbiter/api"
)

// method are the lines of a method of eight locals and room for six operands; without instructions it has no code.
func method(head, instructions string) string {
	if instructions == "" {
		return "method " + head + "\nlocals 0\nstack 0\n"
	}
	return "method " + head + "\nlocals 8\nstack 6\n" + strings.ReplaceAll(instructions, ", ", "\n") + "\n"
}

// class are the lines by which a class arrives.
func class(name, super string, methods ...string) string {
	return "define\nclass " + name + "\nsuper " + super + "\nflags public super\nloader 0\n" + strings.Join(methods, "") + "end\n"
}

func iface(name string, methods ...string) string {
	return flagged("public interface abstract", class(name, "Object", methods...))
}

// flagged turns the flags of a class, by its loader, of the interfaces that it names.
func flagged(words, lines string) string {
	return strings.Replace(lines, "\nflags public super\n", "\nflags "+words+"\n", 1)
}

func by(loader, lines string) string {
	return strings.Replace(lines, "\nloader 0\n", "\nloader "+loader+"\n", 1)
}

func of(lines string, names ...string) string {
	for _, name := range names {
		lines = strings.Replace(lines, "\nflags ", "\niface "+name+"\nflags ", 1)
	}
	return lines
}

// example is the class of chapter 5's example 1 with another name.
func example(name string) string {
	return "define\nclass " + name + "\nsuper Object\nflags public super\nloader 0\nmethod m ()I public\nlocals 1\nstack 1\niconst 5\nireturn\nend\n"
}

// main is a class whose static method f has these instructions.
func main(descriptor, instructions string, methods ...string) string {
	return class("Main", "Object", append(methods, method("f "+descriptor+" public static", instructions))...)
}

// lines ends each line by its byte.
func lines(all ...string) string {
	text := ""
	for _, line := range all {
		text += line + "\n"
	}
	return text
}

// show cuts what it shows, since scripts may be long.
func show(text string) string {
	if len(text) > 400 {
		return fmt.Sprintf("%q .. %q (%d bytes)", text[:200], text[len(text)-200:], len(text))
	}
	return fmt.Sprintf("%q", text)
}

// says holds what a script answers against lines that are written out by hand, and all ways to feed it against the second telling.
func says(t *testing.T, script string, want ...string) {
	t.Helper()
	if got := Run(script); got != lines(want...) {
		t.Errorf("Run(%s) answered %s, wanted %s", show(script), show(got), show(lines(want...)))
	}
	holdsInPieces(t, script)
}

// each is a table of lines, done alone behind the same beginning, and then all together, in any order.
func each(t *testing.T, begin string, began []string, table map[string]string) {
	t.Helper()
	script, all := begin, slices.Clone(began)
	for line, want := range table {
		one, answers := begin+line+"\n", append(slices.Clone(began), wanted(want)...)
		if got := Run(one); got != lines(answers...) {
			t.Errorf("%s answered %s, wanted %s", show(line), show(strings.TrimPrefix(got, lines(began...))), show(lines(wanted(want)...)))
		}
		script += line + "\n"
		all = append(all, wanted(want)...)
	}
	says(t, script, all...)
}

// wanted splits lines of a table; the empty text is none.
func wanted(text string) []string {
	if text == "" {
		return nil
	}
	return strings.Split(text, ", ")
}

func TestExamples(t *testing.T) { // P24.1: the chapter's
	says(t, "chain Object\n", "Object")
	says(t, "# x\n")
	says(t, "chains\n", "error 8")
	says(t, "run A.f()V\n", "error 4")
	says(t, "run A.f()V fuel 5\n", "thrown 20 spent 0")
	says(t, "run A.f(I)V fuel 5\n", "error 2")
	says(t, example("p/A"), "defined 3")
	says(t, example("p/A")+example("p/A"), "defined 3", "error 25")
	says(t, by("00", example("p/A")), "error 4 at 4")
	says(t, strings.Replace(example("p/A"), "super Object", "super B", 1), "error 20")
	says(t, "cache 65\ncache 2\ncache\ncache 01\ncache 1 2\n", "error 7", "cached", "error 4", "error 4", "error 4")
	says(t, class("A", "Object", method("f ()V public static", "iconst 5, print, return"))+"run A.f()V fuel 9\n", "defined 3", "> 5", "returned spent 3")
	says(t, "define\nclass A", "error 4")
	says(t, "")
	says(t, "\n\n")
}

func TestExamplesOfTheWhole(t *testing.T) { // P24.1: those of the document
	m := func(flags, n string) string { return method("m ()I"+flags, "iconst "+n+", ireturn") }
	says(t, "chain Cloneable\n", "Cloneable", "Object")
	says(t, example("A")+example("A"), "defined 3", "error 25")
	says(t, example("A")+"select virtual A.m()I A from Object\nselect virtual A.m()I Object from Object\n", "defined 3", "A.m()I", "error 23")
	says(t, example("A")+class("B", "A", m(" public", "1"))+"select virtual A.m()I B from Object\noverrides B.m()I A.m()I\n", "defined 3", "defined 4", "B.m()I", "yes")
	says(t, class("p/A", "Object", m("", "1"))+class("q/B", "p/A", m(" public", "2"))+class("p/C", "q/B", m(" public", "3"))+"overrides q/B.m()I p/A.m()I\noverrides p/C.m()I p/A.m()I\nvtable p/C\n",
		"defined 3", "defined 4", "defined 5", "no", "yes", "0 Object.id()I Object.id()I", "1 Object.kin()LObject; Object.kin()LObject;", "2 p/A.m()I p/C.m()I", "3 q/B.m()I p/C.m()I")
	says(t, iface("I", m(" public", "1"))+iface("J", m(" public", "2"))+of(class("C", "Object"), "I", "J")+"select virtual C.m()I C from Object\n", "defined 3", "defined 4", "defined 5", "error 23")
	says(t, "below [[I [LObject;\nbelow [I [LObject;\n", "yes", "no")
	run := main("()I", "new A, invokevirtual A.m()I, ireturn")
	says(t, example("A")+run+"run Main.f()I fuel 5\nrun Main.f()I fuel 4\n", "defined 3", "defined 4", "returned 5 spent 5", "thrown 36 spent 4")
	says(t, run+"run Main.f()I fuel 5\n"+example("A")+"run Main.f()I fuel 5\n", "defined 3", "thrown 20 spent 1", "defined 4", "returned 5 spent 5")
	says(t, run+"cache 64\nrun Main.f()I fuel 5\n"+example("A")+"cache 64\nrun Main.f()I fuel 5\n", "defined 3", "cached", "thrown 20 spent 1", "defined 4", "cached", "returned 5 spent 5")
}

func TestNil(t *testing.T) { // P24.4, R6
	// A Session that Open did not make is as a nil one.
	for _, s := range []*Session{nil, {}, new(Session)} {
		for _, piece := range []string{"", "\n", "chain Object\n", example("A"), "cache 2\n", "run A.f()V fuel 5\n", "x", strings.Repeat("\n", api.MaxScript+1)} {
			if got := s.Feed(piece); got != "" {
				t.Errorf("Feed(%s) of nil answered %q", show(piece), got)
			}
			if w, n := s.World(), s.Lines(); w != nil || n != 0 {
				t.Errorf("nil has %d lines and a world: %t", n, w != nil)
			}
		}
		for range 2 {
			if got := s.End(); got != "" {
				t.Errorf("End of nil answered %q", got)
			}
		}
	}
}
