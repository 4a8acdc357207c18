package report

import (
	"fmt"
	"regexp"
	"slices"
	"strings"
	"testing"

	"arbiter/api"
	"arbiter/choose"
	"arbiter/code"
	"arbiter/display"
	"arbiter/hier"
	"arbiter/itable"
	"arbiter/link"
	"arbiter/shapes"
	"arbiter/vtable"
)

// The chapter a second time: texts are cut by a pattern and written by a format, tables come from their layers and not from questions, worlds are held against each other as one text, and answers of the definition stand in maps by what was asked.

// flagWords are the words of flags, each behind a blank.
func flagWords(flags int, words ...string) string {
	bits := map[string]int{"public": 1, "private": 2, "protected": 4, "static": 8, "final": 16, "super": 32, "interface": 512, "abstract": 1024}
	text := ""
	for _, word := range words {
		if flags&bits[word] != 0 {
			text += " " + word
		}
	}
	return text
}

func toldClass(c api.Class) string {
	text := fmt.Sprintf("class %s\nsuper %s\n", c.Name, c.Super)
	for _, name := range c.Ifaces {
		text += fmt.Sprintf("iface %s\n", name)
	}
	text += fmt.Sprintf("flags%s\nloader %d\n", flagWords(c.Flags, "public", "final", "super", "interface", "abstract"), c.Loader)
	for _, m := range c.Methods {
		text += fmt.Sprintf("method %s %s%s\nlocals %d\nstack %d\n", m.Name, m.Desc, flagWords(m.Flags, "public", "private", "protected", "static", "final", "abstract"), m.Locals, m.Stack)
		for _, i := range m.Code {
			line, _ := code.Print(i)
			text += line + "\n"
		}
	}
	return text + "end\n"
}

func toldWorld(w *hier.World) string {
	text := ""
	for id := w.Len() - 1; id > 2; id-- {
		c, _ := w.Class(id)
		text = toldClass(c) + text
	}
	return text
}

// classPattern is a class's text with its end, or the rest.
var classPattern = regexp.MustCompile(`(?s:(?U:.*)(?m:^end$)\n|.+)`)

func toldLoad(s string) (*hier.World, int, api.Errno) {
	w := hier.New()
	for _, at := range classPattern.FindAllStringIndex(s, -1) {
		c, line, e := shapes.Parse(s[at[0]:at[1]])
		if e == api.OK {
			_, e = w.Define(c)
		}
		switch ahead := strings.Count(s[:at[0]], "\n"); {
		case line > 0:
			return nil, ahead + line, e
		case e != api.OK:
			return nil, ahead + 1, e
		}
	}
	return w, 0, api.OK
}

// holdsLoad holds Load against the second telling.
func holdsLoad(t testing.TB, s string) {
	t.Helper()
	w, line, e := Load(s)
	told, toldLine, toldE := toldLoad(s)
	if line != toldLine || e != toldE || (w == nil) != (told == nil) || !toldSame(w, told) {
		t.Errorf("Load(%s) answered %t, %d, %d, told %d, %d", show(s), w != nil, line, e, toldLine, toldE)
	}
}

func nameIn(w *hier.World, id int) string {
	c, _ := w.Class(id)
	return c.Name
}

func toldMethod(w *hier.World, m api.MethodID, e api.Errno) string {
	if e != api.OK {
		return fmt.Sprintf("error %d", int(e))
	}
	method, _ := w.Method(m)
	mark := map[bool]string{false: ".", true: ":"}[w.IsIface(m.Class)]
	return nameIn(w, m.Class) + mark + method.Name + method.Desc
}

func toldTables(w *hier.World, id int) string {
	text := ""
	tell := func(form string, parts ...any) { text += fmt.Sprintf(form+"\n", parts...) }
	list := func(head string, ids []int) {
		for _, id := range ids {
			head += " " + nameIn(w, id)
		}
		tell("%s", head)
	}
	c, _ := w.Class(id)
	chain, _ := w.Chain(id)
	closure, _ := w.Closure(id)
	for _, above := range slices.Concat(chain, closure) {
		tell("%s", nameIn(w, above))
	}
	for index := range c.Methods {
		tell("%s", toldMethod(w, api.MethodID{Class: id, Index: index}, api.OK))
	}
	slots, _ := vtable.Build(w, id)
	for at, slot := range slots {
		tell("%d %s %s", at, toldMethod(w, slot.Root, api.OK), toldMethod(w, slot.Method, api.OK))
	}
	entries, e := itable.Build(w, id)
	if e != api.OK {
		tell("error %d\nerror %[1]d", int(e))
	}
	for _, entry := range entries {
		tell("%s %s %s", toldMethod(w, entry.Root, api.OK), toldMethod(w, entry.Method, entry.Err), toldMethod(w, entry.Virtual, entry.VirtualErr))
	}
	shown, _ := display.Build(w, id)
	list("primary", shown.Primary)
	list("deep", shown.Deep)
	list("secondary", shown.Secondary)
	return text
}

// facts are all classes of a world, as one text in which an empty list is as none.
func facts(w *hier.World) string {
	var text strings.Builder
	for id := range w.Len() {
		c, _ := w.Class(id)
		fmt.Fprintf(&text, "%q %q %q %d %d\n", c.Name, c.Super, c.Ifaces, c.Flags, c.Loader)
		for _, m := range c.Methods {
			fmt.Fprintf(&text, "%q %q %d %d %d\n", m.Name, m.Desc, m.Flags, m.Locals, m.Stack)
			for _, i := range m.Code {
				fmt.Fprintf(&text, "%d %d %q %t %q %q %q\n", i.Op, i.N, i.Type, i.Ref.Iface, i.Ref.Class, i.Ref.Name, i.Ref.Desc)
			}
		}
	}
	return text.String()
}

func toldSame(a, b *hier.World) bool {
	return (a == nil) == (b == nil) && facts(a) == facts(b)
}

// question is one that is asked of two worlds, by the names that it has in both.
type question struct {
	at         int // the place of the reference
	from, recv string
}

// toldAnswers are what one world answers by the definition.
func toldAnswers(w *hier.World, kind int, list []api.Ref) map[question]string {
	all := map[question]string{}
	for at, ref := range list {
		for d := range w.Len() {
			for r := range w.Len() {
				if w.IsIface(r) {
					continue
				}
				q := question{at, nameIn(w, d), nameIn(w, r)}
				m, e := choose.Call(w, d, kind, ref, api.Type{Name: q.recv})
				if kind == api.StaticInv {
					q.recv = ""
				}
				if e != api.ErrForm {
					all[q] = strings.Replace(toldMethod(w, m, e), ":", ".", 1)
				}
			}
		}
	}
	return all
}

func toldDiffer(a, b *link.Linker, kind int, list []api.Ref) (int, api.Errno) {
	if a == nil || b == nil || !slices.Contains([]int{1, 2, 3, 4}, kind) {
		return 0, api.ErrArg
	}
	if len(list) >= 4097 {
		return 0, api.ErrLarge
	}
	count, others := 0, toldAnswers(b.World(), kind, list)
	for q, one := range toldAnswers(a.World(), kind, list) {
		if other, there := others[q]; there && other != one {
			count++
		}
	}
	return count, api.OK
}
