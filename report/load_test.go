package report

import (
	"fmt"
	"slices"
	"strings"
	"testing"

	"arbiter/api"
	"arbiter/hier"
)

// loads holds what Load refuses against what is written out by hand, and against the second telling.
func loads(t *testing.T, s string, line int, e api.Errno) {
	t.Helper()
	w, gotLine, got := Load(s)
	if w != nil || gotLine != line || got != e {
		t.Errorf("Load(%s) answered %t, %d, %d, wanted %d, %d", show(s), w != nil, gotLine, got, line, e)
	}
	holdsLoad(t, s)
}

// loadsAll holds the names of all classes of the world against those written out by hand.
func loadsAll(t *testing.T, s string, names ...string) {
	t.Helper()
	w, line, e := Load(s)
	got := namesOf(w)
	if want := append([]string{"Object", "Cloneable", "Serializable"}, names...); line != 0 || e != api.OK || !slices.Equal(got, want) {
		t.Errorf("Load(%s) answered %q, %d, %d, wanted %q", show(s), got, line, e, want)
	}
	holdsLoad(t, s)
}

func namesOf(w *hier.World) []string {
	var names []string
	for id := range w.Len() {
		c, _ := w.Class(id)
		names = append(names, c.Name)
	}
	return names
}

// full are texts of as many classes as a world has room for.
func full() (texts, names []string) {
	for n := range api.MaxClasses - 3 {
		names = append(names, fmt.Sprint("p/A", n))
		texts = append(texts, example(names[n]))
	}
	return texts, names
}

func TestLoad(t *testing.T) { // P25.2
	loadsAll(t, "")
	loadsAll(t, example("A"), "A")
	loadsAll(t, example("A")+example("p/A")+class("B", "A"), "A", "p/A", "B")
	loadsAll(t, class("end", "Object", five("end ()I"))+class("A", "end"), "end", "A")
	loadsAll(t, strings.Join(great(), ""), "p/I", "p/q/J", "p/q/A", "p/A", "p/B", "$_", "Final", "Public", "a/b/c/d/E1")
	texts, names := full()
	loadsAll(t, strings.Join(texts, ""), names...)
}

// TestLoadWhatItWrote: every class is as it was written, field by field.
func TestLoadWhatItWrote(t *testing.T) { // P25.2
	w := loaded(t, example("p/A")+of(by("7", iface("I", method("m ([I)V public abstract", ""))), "Cloneable"))
	a, _ := w.Class(3)
	i, _ := w.Class(4)
	if want := "{p/A Object [] 33 0 [{m ()I 1 1 1 [{1 5  {false   }} {36 0  {false   }}]}]} {I Object [Cloneable] 1537 7 [{m ([I)V 1025 0 0 []}]}"; fmt.Sprint(a, i) != fmt.Sprint(want) {
		t.Errorf("%v %v, wanted %s", a, i, want)
	}
}

// TestLoadOfEnds: of a text that ends within a class, at each of its bytes.
func TestLoadOfEnds(t *testing.T) { // P25.2
	a, b := example("A"), of(class("p/B", "A", five("n ()I public"), method("f (I)V static", "return")), "Cloneable")
	for at := 1; at < len(b); at++ {
		// The line that the end cuts off, be it empty, may not stand there.
		loads(t, b[:at], 1+strings.Count(b[:at], "\n"), api.ErrText)
		loads(t, a+b[:at], 11+strings.Count(b[:at], "\n"), api.ErrText)
	}
	loadsAll(t, a+b, "A", "p/B")
	// Without the byte 10 at its end.
	loads(t, strings.TrimSuffix(a, "\n"), 10, api.ErrText)
	loads(t, a+strings.TrimSuffix(b, "\n"), 25, api.ErrText)
	loads(t, "end", 1, api.ErrText)
	loads(t, a+"end", 11, api.ErrText)
	loads(t, a+a[:len(a)-4]+"return", 20, api.ErrText)
	loads(t, a+"class B", 11, api.ErrText)
	loads(t, "x", 1, api.ErrText)
}

func TestLoadOfEmptyLines(t *testing.T) { // P25.2
	a, b := example("A"), example("B")
	loads(t, "\n", 1, api.ErrText)
	loads(t, "\n\n\n", 1, api.ErrText)
	loads(t, "\n"+a, 1, api.ErrText)
	loads(t, "\n\n"+a+b, 1, api.ErrText)
	loads(t, a+"\n"+b, 11, api.ErrText)
	loads(t, a+"\n\n"+b, 11, api.ErrText)
	loads(t, a+b+"\n", 21, api.ErrText)
	loads(t, a+b+"\n\n", 21, api.ErrText)
	loads(t, a+" ", 11, api.ErrText)
	loads(t, a+"\x00", 11, api.ErrText)
	for at := range strings.Count(a, "\n") {
		all := strings.SplitAfter(a, "\n")
		loads(t, b+strings.Join(slices.Insert(all, at, "\n"), ""), 11+at, api.ErrText)
	}
}

// TestLoadOfLinesLikeEnd: the text of a class goes on behind a line that only looks like its end.
func TestLoadOfLinesLikeEnd(t *testing.T) { // P25.2
	a, b := example("A"), example("B")
	for _, line := range []string{"ends", "end ", " end", "end\r", "END", "End", "end end", "endend", "en", "e", "end\x00", "\tend", "\x00end", "end.", "\u00a0end", "end\v", "ｅｎｄ"} {
		like := strings.Replace(a, "\nend\n", "\n"+line+"\n", 1)
		loads(t, like, 10, api.ErrText)
		loads(t, like+"end\n", 10, api.ErrText)
		loads(t, like+b, 10, api.ErrText)
		loads(t, b+like+b, 20, api.ErrText)
		// What stands behind the line is of the same text, which may be too large by it.
		large := like + strings.Repeat("x", api.MaxShape-len(like)-3)
		loads(t, b+large+"\nend\n"+b, 11, api.ErrLarge)
		loads(t, b+large[:len(large)-2]+"\nend\n"+b, 20, api.ErrText)
		loads(t, line+"\n"+a, 1, api.ErrText)
		loads(t, a+line+"\n"+b, 11, api.ErrText)
		loads(t, a+line, 11, api.ErrText)
	}
	loads(t, "end\n", 1, api.ErrText)
	loads(t, "end\nend\n", 1, api.ErrText)
	loads(t, a+"end\n"+b, 11, api.ErrText)
	loads(t, a+b+"end\n", 21, api.ErrText)
	loads(t, strings.ReplaceAll(a, "\n", "\r\n"), 3, api.ErrText)
}

// TestLoadOfLinesAtFault: each line of a class is at fault in turn, in the first class and in later ones.
func TestLoadOfLinesAtFault(t *testing.T) { // P25.2
	a, b, c := example("A"), example("B"), of(class("C", "A", five("n ()I"), method("f ()V static", "return")), "Cloneable")
	all := strings.SplitAfter(c, "\n")
	all = all[:len(all)-1]
	for at := range all {
		for _, line := range []string{"x\n", "loader 00\n", "end \n", "iconst 05\n", "class \n"} {
			bad := slices.Clone(all)
			bad[at] = line
			text := strings.Join(bad, "")
			loads(t, text, 1+at, api.ErrText)
			loads(t, a+text, 11+at, api.ErrText)
			loads(t, a+b+text, 21+at, api.ErrText)
			loads(t, a+b+text+a, 21+at, api.ErrText)
			loads(t, a+b+text+text, 21+at, api.ErrText)
		}
		if at < len(all)-1 {
			// Without a line it is the one behind it that may not stand there, but an instruction, and what is named of the interfaces, may be missing.
			text := strings.Join(slices.Delete(slices.Clone(all), at, at+1), "")
			if !strings.HasPrefix(all[at], "i") && !strings.HasPrefix(all[at], "return") {
				loads(t, a+text, 11+at, api.ErrText)
			}
		}
	}
	loads(t, strings.Replace(a, "loader 0", "loader 00", 1), 4, api.ErrText)
	loads(t, strings.Replace(a, "class A", "class  A", 1), 1, api.ErrText)
	loads(t, a+strings.Replace(b, "ireturn", "Return", 1), 19, api.ErrText)
}

// unsound are texts whose lines may all stand there, but of a class that is not sound.
func unsound(name string) []string {
	a := example(name)
	return []string{
		by("10", a), strings.Replace(a, "locals 1", "locals 0", 1), strings.Replace(a, "stack 1", "stack 41", 1), flagged("public interface", a), flagged("public final abstract", a), strings.Replace(a, "class ", "class 1", 1),
		strings.Replace(a, "super Object", "super "+name, 1), of(a, name), of(a, "I", "I"), of(a, "1"), class(name, "Object", five("m ()I"), five("m ()I")), class(name, "Object", five("<init> ()I")), class(name, "Object", five("m ()")), class(name, "Object", method("m ()V abstract", "return")),
		class(name, "Object", "method m ()V\nlocals 4\nstack 4\n"), class(name, "Object", method("m ()V", "iload 4")), class(name, "Object", method("m ()V", "goto 1")), iface(name, method("m ()V", "return")), strings.Replace(a, "super Object", "super ;", 1),
	}
}

func TestLoadOfUnsoundClasses(t *testing.T) { // P25.2
	for _, text := range unsound("Z") {
		loads(t, text, 1, api.ErrForm)
		loads(t, text+"x", 1, api.ErrForm)
		loads(t, example("A")+text, 11, api.ErrForm)
		loads(t, example("A")+example("B")+text+example("A"), 21, api.ErrForm)
	}
}

// TestLoadOfLargeTexts: of a class's text MaxShape bytes are taken, one more is not; all texts together may have more.
func TestLoadOfLargeTexts(t *testing.T) { // P25.2
	fits, large := sizedText(t, "Z", api.MaxShape), sizedText(t, "Z", api.MaxShape+1)
	loadsAll(t, fits, "Z")
	loadsAll(t, example("A")+fits+example("B"), "A", "Z", "B")
	loads(t, large, 1, api.ErrLarge)
	loads(t, example("A")+large, 11, api.ErrLarge)
	loads(t, example("A")+example("B")+large+example("A"), 21, api.ErrLarge)
	// Whatever lines there are.
	loads(t, strings.Repeat("\n", api.MaxShape+1), 1, api.ErrLarge)
	loads(t, strings.Repeat("\n", api.MaxShape), 1, api.ErrText)
	loads(t, example("A")+strings.Repeat("x\n", api.MaxShape/2)+"x", 11, api.ErrLarge)
	loads(t, example("A")+strings.Repeat("x\n", api.MaxShape/2), 11, api.ErrText)
	loads(t, strings.Repeat("x", api.MaxShape-3)+"\nend\n", 1, api.ErrLarge)
	loads(t, strings.Repeat("x", api.MaxShape-5)+"\nend\n", 1, api.ErrText)
	// What stands behind a class is no part of its text.
	loads(t, fits+"\n", 1+strings.Count(fits, "\n"), api.ErrText)
	loads(t, fits+fits, 1+strings.Count(fits, "\n"), api.Linkage)
	text, names := "", []string{}
	for n := range 20 {
		names = append(names, fmt.Sprint("p/Z", n))
		text += sizedText(t, names[n], api.MaxShape)
	}
	loadsAll(t, text, names...)
}

// sizedText is the sound text of a class, of just so many bytes.
func sizedText(t testing.TB, name string, size int) string {
	t.Helper()
	text := class(name, "Object")
	for n := 0; len(text) < size; n++ {
		m := method(fmt.Sprintf("m%d ()V", n), strings.Repeat("arraylength, ", min((size-len(text)-100)/12, 150))+"return")
		if size-len(text) < 2500 {
			// What is left is told by the name of the last one.
			m = method("m ()V", strings.Repeat("arraylength, ", (size-len(text)-50)/12)+"return")
			m = strings.Replace(m, "method m", "method m"+strings.Repeat("m", size-len(text)-len(m)), 1)
		}
		text = strings.TrimSuffix(text, "end\n") + m + "end\n"
	}
	if len(text) != size {
		t.Fatalf("%d bytes, wanted %d", len(text), size)
	}
	return text
}

// refusedClasses are texts of sound classes that a world refuses which has what town has.
func refusedClasses() []struct {
	text string
	e    api.Errno
} {
	return []struct {
		text string
		e    api.Errno
	}{
		{class("A", "Object"), api.Linkage}, {class("Object", "A"), api.Linkage}, {iface("Cloneable"), api.Linkage}, {class("A", "No"), api.Linkage},
		{class("B", "No"), api.NoClassDef}, {class("B", "I"), api.Incompatible}, {class("B", "Cloneable"), api.Incompatible}, {strings.Replace(iface("J"), "super Object", "super A", 1), api.Incompatible},
		{class("B", "p/Shut"), api.IllegalAccess}, {by("1", class("p/B", "p/Shut")), api.IllegalAccess},
		{of(class("B", "Object"), "No"), api.NoClassDef}, {of(class("B", "Object"), "A"), api.Incompatible}, {of(class("B", "Object"), "p/ShutI"), api.IllegalAccess}, {of(iface("J"), "A"), api.Incompatible},
		// The first of two that hold.
		{of(class("A", "No"), "No"), api.Linkage}, {of(class("B", "I"), "No"), api.Incompatible}, {of(class("B", "p/Shut"), "No"), api.IllegalAccess}, {of(class("B", "Object"), "A", "No"), api.Incompatible}, {of(class("B", "Object"), "p/ShutI", "A"), api.IllegalAccess},
	}
}

func townOfRefusals() string {
	return example("A") + iface("I") + flagged("super", class("p/Shut", "Object")) + flagged("interface abstract", class("p/ShutI", "Object"))
}

func TestLoadOfRefusedClasses(t *testing.T) { // P25.2
	town := townOfRefusals()
	first := 1 + strings.Count(town, "\n")
	loadsAll(t, town+of(class("p/B", "p/Shut"), "p/ShutI", "I"), "A", "I", "p/Shut", "p/ShutI", "p/B")
	for _, x := range refusedClasses() {
		loads(t, town+x.text, first, x.e)
		loads(t, town+x.text+"\n", first, x.e)
		loads(t, town+example("Z")+x.text+example("Y"), first+10, x.e)
	}
	// In an order in which what is named has not yet arrived.
	loads(t, class("B", "A")+example("A"), 1, api.NoClassDef)
	loads(t, of(class("B", "Object"), "I")+iface("I"), 1, api.NoClassDef)
	loadsAll(t, iface("I")+of(class("B", "Object"), "I"), "I", "B")
}

// TestLoadOfTooMany: where there is no room, nothing that Define asks later is asked.
func TestLoadOfTooMany(t *testing.T) { // P25.2
	texts, names := full()
	all := strings.Join(texts, "")
	loadsAll(t, all, names...)
	for _, text := range []string{example("B"), texts[0], class("B", "No"), class("B", "Cloneable"), class("Object", "B")} {
		loads(t, all+text, 2971, api.ErrLarge)
	}
	loads(t, all+by("10", example("B")), 2971, api.ErrForm)
	loads(t, all+strings.Replace(example("B"), "ireturn", "x", 1), 2979, api.ErrText)
	loads(t, all+"\n", 2971, api.ErrText)
}

// TestLoadOfTwoAtFault: the first is answered, whatever each of both is refused for.
func TestLoadOfTwoAtFault(t *testing.T) { // P25.2, R2
	type fault struct {
		text string
		line int
		e    api.Errno
	}
	faults := []fault{
		{"x\nend\n", 1, api.ErrText}, {strings.Replace(example("X"), "iconst 5", "iconst 05", 1), 8, api.ErrText}, {strings.Replace(example("X"), "stack 1\n", "", 1), 7, api.ErrText},
		{by("10", example("X")), 1, api.ErrForm}, {class("Object", "Cloneable"), 1, api.Linkage}, {class("X", "No"), 1, api.NoClassDef}, {class("X", "Cloneable"), 1, api.Incompatible},
		{strings.Repeat("x\n", api.MaxShape/2) + "end\n", 1, api.ErrLarge},
	}
	for _, one := range faults {
		for _, other := range faults {
			loads(t, example("A")+one.text+other.text, 10+one.line, one.e)
			loads(t, one.text+example("A")+other.text, one.line, one.e)
		}
		loads(t, example("A")+one.text+"x", 10+one.line, one.e)
	}
}

// TestLoadAnyBytes: texts of any bytes.
func TestLoadAnyBytes(t *testing.T) { // R1
	a := example("A")
	for b := range 256 {
		if b == '\n' {
			continue
		}
		loads(t, string([]byte{byte(b)}), 1, api.ErrText)
		loads(t, a+string([]byte{byte(b)}), 11, api.ErrText)
		loads(t, a+string([]byte{byte(b), '\n'}), 11, api.ErrText)
		loads(t, "end"+string([]byte{byte(b), '\n'})+a, 1, api.ErrText)
	}
	loads(t, "\xff\xfe\nend\n", 1, api.ErrText)
	loads(t, strings.Repeat("end\n", 100000), 1, api.ErrText)
	loads(t, strings.Repeat("e", 1<<22), 1, api.ErrLarge)
}
