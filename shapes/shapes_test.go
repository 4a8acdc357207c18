package shapes

import (
	"errors"
	"fmt"
	"math"
	"math/rand"
	"reflect"
	"regexp"
	"slices"
	"strconv"
	"strings"
	"testing"

	"arbiter/api"
	"arbiter/code"
	"arbiter/flags"
	"arbiter/names"
	"arbiter/types"
)

// What the document says, a second time.

// isSoundClass says the section 'Sound classes' of whole classes.
func isSoundClass(c api.Class) bool {
	sound := names.Valid(c.Name) && names.Valid(c.Super) && c.Name != c.Super
	sound = sound && len(c.Ifaces) <= 20 && len(c.Methods) <= 40
	sound = sound && flags.CheckClass(c.Flags) == api.OK && c.Loader >= 0 && c.Loader <= 9
	if !sound {
		return false
	}
	seenIfaces := map[string]int{c.Name: 1}
	for _, iface := range c.Ifaces {
		seenIfaces[iface]++
		sound = sound && names.Valid(iface) && seenIfaces[iface] == 1
	}
	seenMethods := map[[2]string]int{}
	for _, m := range c.Methods {
		seenMethods[[2]string{m.Name, m.Desc}]++
		sound = sound && seenMethods[[2]string{m.Name, m.Desc}] == 1 && isSoundMethod(m, c.Flags&0x200 != 0)
	}
	return sound
}

func isSoundMethod(m api.Method, iface bool) bool {
	d, e := types.ParseDesc(m.Desc)
	if e != api.OK || !names.Member(m.Name) || flags.CheckMethod(m.Flags, iface, m.Name) != api.OK {
		return false
	}
	if m.Name == "<init>" && !d.Void {
		return false
	}
	if m.Flags&0x400 != 0 {
		return m.Locals == 0 && m.Stack == 0 && len(m.Code) == 0
	}
	words := len(d.Args) + 1
	if m.Flags&0x8 != 0 {
		words--
	}
	return code.CheckAll(m.Code, m.Locals) == api.OK && m.Stack >= 0 && m.Stack <= 40 && m.Locals >= words && m.Locals <= 40
}

// textOf says the section 'The text'.
func textOf(c api.Class) string {
	s := "class " + c.Name + "\nsuper " + c.Super + "\n"
	for _, iface := range c.Ifaces {
		s += "iface " + iface + "\n"
	}
	words, _ := flags.ClassText(c.Flags)
	s += strings.TrimSuffix("flags "+words, " ") + "\nloader " + strconv.Itoa(c.Loader) + "\n"
	for _, m := range c.Methods {
		words, _ := flags.MethodText(m.Flags)
		s += strings.TrimSuffix("method "+m.Name+" "+m.Desc+" "+words, " ") + "\nlocals " + strconv.Itoa(m.Locals) + "\nstack " + strconv.Itoa(m.Stack) + "\n"
		for _, i := range m.Code {
			text, _ := code.Print(i)
			s += text + "\n"
		}
	}
	return s + "end\n"
}

// wordsPattern is all texts of some of the words, in their order.
func wordsPattern(words ...string) string {
	pattern := ""
	for _, word := range words {
		pattern += "( " + word + ")?"
	}
	return pattern
}

// The lines of the text by kind. An instruction is what none of the patterns takes and code.Parse does.
var patterns = map[string]*regexp.Regexp{
	"class":  regexp.MustCompile(`(?s)\Aclass ([^ ]+)\z`),
	"super":  regexp.MustCompile(`(?s)\Asuper ([^ ]+)\z`),
	"iface":  regexp.MustCompile(`(?s)\Aiface ([^ ]+)\z`),
	"flags":  regexp.MustCompile(`(?s)\Aflags(` + wordsPattern("public", "final", "super", "interface", "abstract") + `)\z`),
	"loader": regexp.MustCompile(`(?s)\Aloader (0|[1-9][0-9]{0,8})\z`),
	"method": regexp.MustCompile(`(?s)\Amethod ([^ ]+) ([^ ]+)(` + wordsPattern("public", "private", "protected", "static", "final", "abstract") + `)\z`),
	"locals": regexp.MustCompile(`(?s)\Alocals (0|[1-9][0-9]{0,8})\z`),
	"stack":  regexp.MustCompile(`(?s)\Astack (0|[1-9][0-9]{0,8})\z`),
	"end":    regexp.MustCompile(`\Aend\z`),
}

// What may follow a line of each kind.
var followers = map[string][]string{
	"": {"class"}, "class": {"super"}, "super": {"iface", "flags"}, "iface": {"iface", "flags"}, "flags": {"loader"}, "loader": {"method", "end"},
	"method": {"locals"}, "locals": {"stack"}, "stack": {"inst", "method", "end"}, "inst": {"inst", "method", "end"}, "end": {},
}

// kindOf answers the kind of a line and its parts; no kind, if there is none.
func kindOf(line string) (string, []string) {
	for kind, pattern := range patterns {
		if parts := pattern.FindStringSubmatch(line); parts != nil {
			return kind, parts[1:]
		}
	}
	if _, e := code.Parse(line); e == api.OK {
		return "inst", nil
	}
	return "none", nil
}

func flagsOf(words string) int {
	sum := 0
	for _, word := range strings.Fields(words) {
		sum |= map[string]int{"public": 1, "private": 2, "protected": 4, "static": 8, "final": 16, "super": 32, "interface": 512, "abstract": 1024}[word]
	}
	return sum
}

func numberOf(digits string) int {
	n, _ := strconv.Atoi(digits)
	return n
}

// tell does what a line of a kind says of the class.
func tell(c *api.Class, kind string, parts []string, line string) {
	last := &api.Method{}
	if len(c.Methods) > 0 {
		last = &c.Methods[len(c.Methods)-1]
	}
	switch kind {
	case "class":
		c.Name = parts[0]
	case "super":
		c.Super = parts[0]
	case "iface":
		c.Ifaces = append(c.Ifaces, parts[0])
	case "flags":
		c.Flags = flagsOf(parts[0])
	case "loader":
		c.Loader = numberOf(parts[0])
	case "method":
		c.Methods = append(c.Methods, api.Method{Name: parts[0], Desc: parts[1], Flags: flagsOf(parts[2])})
	case "locals":
		last.Locals = numberOf(parts[0])
	case "stack":
		last.Stack = numberOf(parts[0])
	case "inst":
		i, _ := code.Parse(line)
		last.Code = append(last.Code, i)
	}
}

// parseByPattern says P5.5.
func parseByPattern(s string) (api.Class, int, api.Errno) {
	if len(s) > 40000 {
		return api.Class{}, 0, api.ErrLarge
	}
	var c api.Class
	pieces := strings.Split(s, "\n")
	last := ""
	for place, line := range pieces {
		if place == len(pieces)-1 && line == "" && last == "end" {
			break
		}
		kind, parts := kindOf(line)
		if place == len(pieces)-1 || !slices.Contains(followers[last], kind) {
			return api.Class{}, place + 1, api.ErrText
		}
		tell(&c, kind, parts, line)
		last = kind
	}
	if !isSoundClass(c) {
		return api.Class{}, 0, api.ErrForm
	}
	return c, 0, api.OK
}

// same takes a nil list and an empty one for the same.
func same(a, b api.Class) bool {
	return reflect.DeepEqual(tidy(a), tidy(b))
}

// tidy answers a copy that shares nothing, with lists that are never nil.
func tidy(c api.Class) api.Class {
	c.Ifaces = append([]string{}, c.Ifaces...)
	c.Methods = append([]api.Method{}, c.Methods...)
	for place := range c.Methods {
		c.Methods[place].Code = append([]api.Inst{}, c.Methods[place].Code...)
	}
	return c
}

// show cuts what is long.
func show(c api.Class) string {
	s := fmt.Sprint(c)
	return s[:min(len(s), 400)]
}

// checkParse holds Parse against the patterns, and a text that is taken against its way back.
func checkParse(t *testing.T, s string) {
	t.Helper()
	want, wantLine, wantErr := parseByPattern(s)
	c, line, e := Parse(s)
	if !same(c, want) || line != wantLine || e != wantErr {
		t.Errorf("Parse(%.2000q) = %s, %d, %d; want %s, %d, %d", s, show(c), line, e, show(want), wantLine, wantErr)
	}
	if e == api.OK {
		if back, e := Print(c); back != s || e != api.OK {
			t.Errorf("Print(Parse(%.2000q)) = %.2000q, %d", s, back, e)
		}
	}
}

// expect holds Parse against a line and an error that are written out, and then against the patterns.
func expect(t *testing.T, s string, line int, e api.Errno) {
	t.Helper()
	c, gotLine, gotErr := Parse(s)
	if gotLine != line || gotErr != e {
		t.Errorf("Parse(%.600q) : %d, %d; want %d, %d", s, gotLine, gotErr, line, e)
	}
	if e != api.OK && !same(c, api.Class{}) {
		t.Errorf("Parse(%.600q) answers %s beside %d", s, show(c), e)
	}
	checkParse(t, s)
}

// Classes.

const exampleText = `class p/A
super Object
flags public super
loader 0
method m ()I public
locals 1
stack 1
iconst 5
ireturn
end
`

const ifaceText = `class p/I
super Object
flags public interface abstract
loader 0
method m ()I public abstract
locals 0
stack 0
end
`

// fullText has each kind of line, and each way in which one may follow another.
const fullText = `class p/B
super p/A
iface p/I
iface q/J
flags abstract
loader 9
method <init> ()V
locals 1
stack 0
return
method n (I[Lp/A;)V public abstract
locals 0
stack 0
method s (II)I public static final
locals 40
stack 40
iload 0
ifeq 4
iconst -5
ireturn
invokestatic p/B.s(II)I
goto 1
method n (I)V private
locals 2
stack 1
return
end
`

func code5() []api.Inst { return []api.Inst{{Op: api.IConst, N: 5}, {Op: api.IReturn}} }

func exampleClass() api.Class {
	return api.Class{Name: "p/A", Super: "Object", Flags: api.Public | api.Super, Methods: []api.Method{{Name: "m", Desc: "()I", Flags: api.Public, Locals: 1, Stack: 1, Code: code5()}}}
}

func exampleIface() api.Class {
	return api.Class{Name: "p/I", Super: "Object", Flags: api.Public | api.Interface | api.AbstractFl, Methods: []api.Method{{Name: "m", Desc: "()I", Flags: api.Public | api.AbstractFl}}}
}

func fullClass() api.Class {
	return api.Class{Name: "p/B", Super: "p/A", Ifaces: []string{"p/I", "q/J"}, Flags: api.AbstractFl, Loader: 9, Methods: []api.Method{
		{Name: "<init>", Desc: "()V", Locals: 1, Code: []api.Inst{{Op: api.Return}}},
		{Name: "n", Desc: "(I[Lp/A;)V", Flags: api.Public | api.AbstractFl},
		{Name: "s", Desc: "(II)I", Flags: api.Public | api.Static | api.Final, Locals: 40, Stack: 40, Code: []api.Inst{{Op: api.ILoad}, {Op: api.IfEq, N: 4}, {Op: api.IConst, N: -5}, {Op: api.IReturn}, {Op: api.InvStatic, Ref: api.Ref{Class: "p/B", Name: "s", Desc: "(II)I"}}, {Op: api.Goto, N: 1}}},
		{Name: "n", Desc: "(I)V", Flags: api.Private, Locals: 2, Stack: 1, Code: []api.Inst{{Op: api.Return}}},
	}}
}

func nameOf(size int) string { return strings.Repeat("a", size) }

func manyNames(count int) []string {
	var all []string
	for n := range count {
		all = append(all, "p/I"+strconv.Itoa(n))
	}
	return all
}

func manyMethods(count int) []api.Method {
	var all []api.Method
	for n := range count {
		all = append(all, api.Method{Name: "m" + strconv.Itoa(n), Desc: "()V", Flags: api.Static, Code: []api.Inst{{Op: api.Return}}})
	}
	return all
}

func manyReturns(count int) []api.Inst {
	return slices.Repeat([]api.Inst{{Op: api.Return}}, count)
}

// turn is a class out of another one by one change; sound says whether it still is.
type turn struct {
	what  string
	sound bool
	do    func(c *api.Class)
}

// method makes a turn of the first method.
func method(what string, sound bool, do func(m *api.Method)) turn {
	return turn{what, sound, func(c *api.Class) { do(&c.Methods[0]) }}
}

func namesTurns() []turn {
	return []turn{
		{"as it is", true, func(c *api.Class) {}},
		{"no name", false, func(c *api.Class) { c.Name = "" }},
		{"a name that is none", false, func(c *api.Class) { c.Name = "p//A" }},
		{"a name with a blank", false, func(c *api.Class) { c.Name = "p A" }},
		{"a name with a byte 10", false, func(c *api.Class) { c.Name = "A\nsuper" }},
		{"a name that a method may have", false, func(c *api.Class) { c.Name = "<init>" }},
		{"a name of 60 bytes", true, func(c *api.Class) { c.Name = nameOf(60) }},
		{"a name of 61 bytes", false, func(c *api.Class) { c.Name = nameOf(61) }},
		{"no super", false, func(c *api.Class) { c.Super = "" }},
		{"a super that is none", false, func(c *api.Class) { c.Super = "1" }},
		{"a super of 60 bytes", true, func(c *api.Class) { c.Super = nameOf(60) }},
		{"a super of 61 bytes", false, func(c *api.Class) { c.Super = nameOf(61) }},
		{"super is name", false, func(c *api.Class) { c.Super = c.Name }},
		{"name is super", false, func(c *api.Class) { c.Name = c.Super }},
		{"an array's super", false, func(c *api.Class) { c.Super = "[I" }},
		{"no interfaces", true, func(c *api.Class) { c.Ifaces = nil }},
		{"an empty list of interfaces", true, func(c *api.Class) { c.Ifaces = []string{} }},
		{"20 interfaces", true, func(c *api.Class) { c.Ifaces = manyNames(20) }},
		{"21 interfaces", false, func(c *api.Class) { c.Ifaces = manyNames(21) }},
		{"an interface that is none", false, func(c *api.Class) { c.Ifaces = []string{"p/I", "p.J"} }},
		{"an interface without name", false, func(c *api.Class) { c.Ifaces = []string{""} }},
		{"an interface of 60 bytes", true, func(c *api.Class) { c.Ifaces = []string{nameOf(60)} }},
		{"an interface of 61 bytes", false, func(c *api.Class) { c.Ifaces = []string{nameOf(61)} }},
		{"an interface twice", false, func(c *api.Class) { c.Ifaces = []string{"p/I", "p/I"} }},
		{"an interface twice, far apart", false, func(c *api.Class) { c.Ifaces = append(manyNames(19), "p/I0") }},
		{"the last interface twice", false, func(c *api.Class) { c.Ifaces = append(manyNames(19), "p/I18") }},
		{"an interface that is name", false, func(c *api.Class) { c.Ifaces = []string{c.Name} }},
		{"a last interface that is name", false, func(c *api.Class) { c.Ifaces = append(manyNames(19), c.Name) }},
		{"an interface that is super", true, func(c *api.Class) { c.Ifaces = []string{c.Super} }},
		{"loader 0", true, func(c *api.Class) { c.Loader = 0 }},
		{"loader 9", true, func(c *api.Class) { c.Loader = 9 }},
		{"loader 10", false, func(c *api.Class) { c.Loader = 10 }},
		{"loader -1", false, func(c *api.Class) { c.Loader = -1 }},
		{"the greatest loader", false, func(c *api.Class) { c.Loader = math.MaxInt }},
		{"the least loader", false, func(c *api.Class) { c.Loader = math.MinInt }},
		{"no methods", true, func(c *api.Class) { c.Methods = nil }},
		{"an empty list of methods", true, func(c *api.Class) { c.Methods = []api.Method{} }},
		{"a method of nothing", false, func(c *api.Class) { c.Methods = []api.Method{{}} }},
	}
}

// classTurns are of the example's class, which is no interface.
func classTurns() []turn {
	return []turn{
		{"no flags", true, func(c *api.Class) { c.Flags = 0 }},
		{"final", true, func(c *api.Class) { c.Flags = api.Final }},
		{"interface alone", false, func(c *api.Class) { c.Flags = api.Interface }},
		{"final and abstract", false, func(c *api.Class) { c.Flags = api.Final | api.AbstractFl }},
		{"a flag of methods", false, func(c *api.Class) { c.Flags = api.Static }},
		{"an unknown flag", false, func(c *api.Class) { c.Flags = 1 << 20 }},
		{"all flags", false, func(c *api.Class) { c.Flags = -1 }},
		{"40 methods", true, func(c *api.Class) { c.Methods = manyMethods(40) }},
		{"41 methods", false, func(c *api.Class) { c.Methods = manyMethods(41) }},
		{"a method twice", false, func(c *api.Class) { c.Methods = append(c.Methods, c.Methods[0]) }},
		{"a method twice, with other flags and code", false, func(c *api.Class) {
			c.Methods = append(c.Methods, api.Method{Name: "m", Desc: "()I", Flags: api.Static, Locals: 3, Code: manyReturns(2)})
		}},
		{"the first of 40 methods again", false, func(c *api.Class) { c.Methods = append(manyMethods(39), manyMethods(1)...) }},
		{"the last of 39 methods again", false, func(c *api.Class) { c.Methods = append(manyMethods(39), manyMethods(39)[38]) }},
		{"a method with another descriptor", true, func(c *api.Class) {
			c.Methods = append(c.Methods, c.Methods[0])
			c.Methods[1].Desc = "()V"
		}},
		{"a method with another name", true, func(c *api.Class) {
			c.Methods = append(c.Methods, c.Methods[0])
			c.Methods[1].Name = "n"
		}},
		{"a last method that is not sound", false, func(c *api.Class) { c.Methods = append(manyMethods(39), api.Method{Name: "x", Desc: "()V"}) }},
		{"an abstract method in a class that is not abstract", true, func(c *api.Class) { c.Methods[0] = api.Method{Name: "m", Desc: "()I", Flags: api.AbstractFl} }},
	}
}

func methodTurns() []turn {
	return []turn{
		method("no name", false, func(m *api.Method) { m.Name = "" }),
		method("a class's name", false, func(m *api.Method) { m.Name = "p/m" }),
		method("a name with a blank", false, func(m *api.Method) { m.Name = "m m" }),
		method("<clinit>", false, func(m *api.Method) { m.Name = "<clinit>" }),
		method("a name of 60 bytes", true, func(m *api.Method) { m.Name = nameOf(60) }),
		method("a name of 61 bytes", false, func(m *api.Method) { m.Name = nameOf(61) }),
		method("<init> that answers an int", false, func(m *api.Method) { m.Name = "<init>" }),
		method("<init> that answers a reference", false, func(m *api.Method) { m.Name, m.Desc = "<init>", "()Lp/A;" }),
		method("<init> that answers nothing", true, func(m *api.Method) { m.Name, m.Desc = "<init>", "()V" }),
		method("<init> with an argument", true, func(m *api.Method) { m.Name, m.Desc, m.Locals = "<init>", "(I)V", 2 }),
		method("<init>, static", false, func(m *api.Method) { m.Name, m.Desc, m.Flags = "<init>", "()V", api.Static }),
		method("<init>, abstract", false, func(m *api.Method) { *m = api.Method{Name: "<init>", Desc: "()V", Flags: api.AbstractFl} }),
		method("no descriptor", false, func(m *api.Method) { m.Desc = "" }),
		method("a descriptor that is none", false, func(m *api.Method) { m.Desc = "()" }),
		method("a descriptor with a blank", false, func(m *api.Method) { m.Desc = "() I" }),
		method("a type", false, func(m *api.Method) { m.Desc = "I" }),
		method("20 arguments", true, func(m *api.Method) { m.Desc, m.Locals = "("+strings.Repeat("I", 20)+")V", 21 }),
		method("21 arguments", false, func(m *api.Method) { m.Desc, m.Locals = "("+strings.Repeat("I", 21)+")V", 22 }),
		method("no flags", true, func(m *api.Method) { m.Flags = 0 }),
		method("public and private", false, func(m *api.Method) { m.Flags = api.Public | api.Private }),
		method("a class's flag", false, func(m *api.Method) { m.Flags = api.Super }),
		method("an unknown flag", false, func(m *api.Method) { m.Flags = 1 << 30 }),
		method("all flags", false, func(m *api.Method) { m.Flags = -1 }),
		method("abstract, with all the rest", false, func(m *api.Method) { m.Flags |= api.AbstractFl }),
		method("abstract, with nothing", true, func(m *api.Method) { *m = api.Method{Name: "m", Desc: "()I", Flags: api.Public | api.AbstractFl} }),
		method("abstract, with an empty list of code", true, func(m *api.Method) {
			*m = api.Method{Name: "m", Desc: "()I", Flags: api.Public | api.AbstractFl, Code: []api.Inst{}}
		}),
		method("abstract, with locals", false, func(m *api.Method) {
			*m = api.Method{Name: "m", Desc: "()I", Flags: api.Public | api.AbstractFl, Locals: 1}
		}),
		method("abstract, with locals below 0", false, func(m *api.Method) {
			*m = api.Method{Name: "m", Desc: "()I", Flags: api.Public | api.AbstractFl, Locals: -1}
		}),
		method("abstract, with a stack", false, func(m *api.Method) {
			*m = api.Method{Name: "m", Desc: "()I", Flags: api.Public | api.AbstractFl, Stack: 1}
		}),
		method("abstract, with a stack below 0", false, func(m *api.Method) {
			*m = api.Method{Name: "m", Desc: "()I", Flags: api.Public | api.AbstractFl, Stack: -1}
		}),
		method("abstract, with code", false, func(m *api.Method) {
			*m = api.Method{Name: "m", Desc: "()I", Flags: api.Public | api.AbstractFl, Code: code5()}
		}),
		method("abstract and static", false, func(m *api.Method) {
			*m = api.Method{Name: "m", Desc: "()I", Flags: api.Public | api.AbstractFl | api.Static}
		}),
	}
}

func bodyTurns() []turn {
	return []turn{
		method("stack 0", true, func(m *api.Method) { m.Stack = 0 }),
		method("stack 40", true, func(m *api.Method) { m.Stack = 40 }),
		method("stack 41", false, func(m *api.Method) { m.Stack = 41 }),
		method("stack -1", false, func(m *api.Method) { m.Stack = -1 }),
		method("the greatest stack", false, func(m *api.Method) { m.Stack = math.MaxInt }),
		method("the least stack", false, func(m *api.Method) { m.Stack = math.MinInt }),
		method("locals 40", true, func(m *api.Method) { m.Locals = 40 }),
		method("locals 41", false, func(m *api.Method) { m.Locals = 41 }),
		method("locals 0", false, func(m *api.Method) { m.Locals = 0 }),
		method("locals -1", false, func(m *api.Method) { m.Locals = -1 }),
		method("the greatest locals", false, func(m *api.Method) { m.Locals = math.MaxInt }),
		method("the least locals", false, func(m *api.Method) { m.Locals = math.MinInt }),
		method("static, locals 0", true, func(m *api.Method) { m.Flags, m.Locals = api.Public|api.Static, 0 }),
		method("static, locals -1", false, func(m *api.Method) { m.Flags, m.Locals = api.Public|api.Static, -1 }),
		method("as many locals as words", true, func(m *api.Method) { m.Desc, m.Locals = "(I[ILA;)I", 4 }),
		method("locals one below the words", false, func(m *api.Method) { m.Desc, m.Locals = "(I[ILA;)I", 3 }),
		method("static, as many locals as words", true, func(m *api.Method) { m.Flags, m.Desc, m.Locals = api.Public|api.Static, "(I[ILA;)I", 3 }),
		method("static, locals one below the words", false, func(m *api.Method) { m.Flags, m.Desc, m.Locals = api.Public|api.Static, "(I[ILA;)I", 2 }),
		method("no code", false, func(m *api.Method) { m.Code = nil }),
		method("an empty list of code", false, func(m *api.Method) { m.Code = []api.Inst{} }),
		method("200 instructions", true, func(m *api.Method) { m.Code = manyReturns(200) }),
		method("201 instructions", false, func(m *api.Method) { m.Code = manyReturns(201) }),
		method("an instruction that is none", false, func(m *api.Method) { m.Code[1].Op = 41 }),
		method("an instruction that is not sound", false, func(m *api.Method) { m.Code[1].N = 1 }),
		method("the last local", true, func(m *api.Method) { m.Locals, m.Code[0] = 3, api.Inst{Op: api.ILoad, N: 2} }),
		method("a local beyond the last", false, func(m *api.Method) { m.Locals, m.Code[0] = 3, api.Inst{Op: api.ILoad, N: 3} }),
		method("the last place", true, func(m *api.Method) { m.Code[0] = api.Inst{Op: api.Goto, N: 1} }),
		method("a place beyond the last", false, func(m *api.Method) { m.Code[0] = api.Inst{Op: api.Goto, N: 2} }),
	}
}

// ifaceTurns are of an interface whose first method has code.
func ifaceTurns() []turn {
	return []turn{
		{"an interface's flags", true, func(c *api.Class) {}},
		{"not abstract", false, func(c *api.Class) { c.Flags = api.Interface }},
		{"with super", false, func(c *api.Class) { c.Flags |= api.Super }},
		method("a method without flags", false, func(m *api.Method) { m.Flags = 0 }),
		method("a protected method", false, func(m *api.Method) { m.Flags = api.Protected }),
		method("a final method", false, func(m *api.Method) { m.Flags |= api.Final }),
		method("a private method", true, func(m *api.Method) { m.Flags = api.Private }),
		method("a static method", true, func(m *api.Method) { m.Flags |= api.Static }),
		method("<init>", false, func(m *api.Method) { m.Name, m.Desc = "<init>", "()V" }),
	}
}

// turned is a class that is turned, and whether it is sound.
type turned struct {
	what  string
	sound bool
	class api.Class
}

func allTurned() []turned {
	var all []turned
	add := func(from func() api.Class, turns ...[]turn) {
		for _, one := range slices.Concat(turns...) {
			c := from()
			one.do(&c)
			all = append(all, turned{one.what, one.sound, c})
		}
	}
	defaultIface := func() api.Class {
		c := exampleClass()
		c.Flags = api.Interface | api.AbstractFl
		return c
	}
	add(exampleClass, namesTurns(), classTurns(), methodTurns(), bodyTurns())
	add(defaultIface, namesTurns(), ifaceTurns(), bodyTurns())
	add(exampleIface, namesTurns())
	add(fullClass, namesTurns())
	return append(all, turned{"nothing", false, api.Class{}})
}

// P5.1

func TestCheckOfTurnedClasses(t *testing.T) {
	for _, one := range allTurned() {
		want := api.ErrForm
		if one.sound {
			want = api.OK
		}
		if isSoundClass(one.class) != one.sound {
			t.Errorf("the second telling differs of: %s: %s", one.what, show(one.class))
		}
		if e := Check(one.class); e != want {
			t.Errorf("Check, %s: %d; want %d: %s", one.what, e, want, show(one.class))
		}
	}
}

func TestCheckOfAllFlags(t *testing.T) {
	for f := range 1 << 12 {
		c := exampleClass()
		c.Flags = f
		if e := Check(c); (e == api.OK) != isSoundClass(c) || e != api.OK && e != api.ErrForm {
			t.Errorf("class flags %#x: %d", f, e)
		}
		for _, classFlags := range []int{0, api.Interface | api.AbstractFl} {
			for _, name := range []string{"m", "<init>"} {
				for _, m := range []api.Method{{Name: name, Desc: "()V", Flags: f}, {Name: name, Desc: "()V", Flags: f, Locals: 1, Code: manyReturns(1)}} {
					c := api.Class{Name: "A", Super: "B", Flags: classFlags, Methods: []api.Method{m}}
					if e := Check(c); (e == api.OK) != isSoundClass(c) || e != api.OK && e != api.ErrForm {
						t.Errorf("%v: %d", c, e)
					}
				}
			}
		}
	}
}

func TestCheckOfAllLocals(t *testing.T) {
	for args := range 22 {
		for _, static := range []int{0, api.Static} {
			for locals := -2; locals < 44; locals++ {
				words := args
				if static == 0 {
					words++
				}
				c := api.Class{Name: "A", Super: "B", Methods: []api.Method{{Name: "m", Desc: "(" + strings.Repeat("I", args) + ")V", Flags: static, Locals: locals, Code: manyReturns(1)}}}
				if sound := args <= 20 && words <= locals && locals <= 40; (Check(c) == api.OK) != sound {
					t.Errorf("%d arguments, static %d, locals %d: %d", args, static, locals, Check(c))
				}
			}
		}
	}
}

func TestCheckOfHugeClasses(t *testing.T) {
	huge := strings.Repeat("A", 1<<20)
	for _, c := range []api.Class{
		{Name: huge, Super: huge, Ifaces: []string{huge}},
		{Name: "A", Super: "B", Ifaces: slices.Repeat([]string{huge}, 1<<16)},
		{Name: "A", Super: "B", Methods: make([]api.Method, 1<<20)},
		{Name: "A", Super: "B", Methods: []api.Method{{Name: huge, Desc: huge}}},
		{Name: "A", Super: "B", Methods: []api.Method{{Name: "m", Desc: "()V", Locals: 1, Code: make([]api.Inst, 1<<20)}}},
	} {
		if e := Check(c); e != api.ErrForm {
			t.Errorf("%d", e)
		}
		if s, e := Print(c); s != "" || e != api.ErrForm {
			t.Errorf("%.100q, %d", s, e)
		}
	}
}

// P5.2

func TestFind(t *testing.T) {
	c := fullClass()
	for place, m := range c.Methods {
		if got := Find(c, m.Name, m.Desc); got != place {
			t.Errorf("Find(%s %s) = %d; want %d", m.Name, m.Desc, got, place)
		}
	}
	for _, none := range [][2]string{{"m", "()V"}, {"n", "()V"}, {"s", "(I)V"}, {"<init>", "(I)V"}, {"", ""}, {"n", ""}, {"", "(I)V"}, {"n ", "(I)V"}, {"N", "(I)V"}, {"n(", "I)V"}, {"n(I)V", ""}, {"p/B", "p/A"}} {
		if got := Find(c, none[0], none[1]); got != -1 {
			t.Errorf("Find(%q) = %d", none, got)
		}
	}
}

func TestFindInUnsoundClasses(t *testing.T) {
	m := func(name, desc string, locals int) api.Method {
		return api.Method{Name: name, Desc: desc, Locals: locals}
	}
	c := api.Class{Methods: []api.Method{m("", "", 9), m("a", "b", 1), m("a", "c", 2), m("a", "b", 3), m("ab", "", 0), m("\xff", " ", 0), m("\xff", " ", 1), m("", "", 0)}}
	for _, want := range []struct {
		name, desc string
		place      int
	}{{"", "", 0}, {"a", "b", 1}, {"a", "c", 2}, {"ab", "", 4}, {"\xff", " ", 5}, {"b", "a", -1}, {"", "ab", -1}, {"\ufffd", " ", -1}} {
		if got := Find(c, want.name, want.desc); got != want.place {
			t.Errorf("Find(%q, %q) = %d; want %d", want.name, want.desc, got, want.place)
		}
	}
	for _, none := range []api.Class{{}, {Methods: []api.Method{}}, {Name: "a", Super: "b", Ifaces: []string{"a", "b"}}} {
		if got := Find(none, "a", "b"); got != -1 {
			t.Errorf("Find in none = %d", got)
		}
	}
	many := make([]api.Method, 1000)
	many[777], many[999] = m("x", "y", 0), m("x", "y", 0)
	if got := Find(api.Class{Methods: many}, "x", "y"); got != 777 {
		t.Errorf("Find in many = %d", got)
	}
	if got := Find(api.Class{Methods: many[:777]}, "x", "y"); got != -1 {
		t.Errorf("Find behind the list's length = %d", got)
	}
}

// P5.3

func TestWords(t *testing.T) {
	for desc, args := range map[string]int{"()V": 0, "()I": 0, "(II)V": 2, "(I[[Lp/A;[I)[I": 3, "(LI;)V": 1, "(" + strings.Repeat("I", 20) + ")V": 20, "([[[I)I": 1} {
		for _, f := range []int{0, api.Public, api.AbstractFl, -1 &^ api.Static, 16, 7, math.MinInt} {
			if n, e := Words(api.Method{Desc: desc, Flags: f}); n != args+1 || e != api.OK {
				t.Errorf("Words(%s, %#x) = %d, %d", desc, f, n, e)
			}
			if n, e := Words(api.Method{Desc: desc, Flags: f | api.Static}); n != args || e != api.OK {
				t.Errorf("Words(%s, %#x, static) = %d, %d", desc, f, n, e)
			}
		}
		// The rest of a method plays no part.
		if n, e := Words(api.Method{Name: "\xff", Desc: desc, Locals: -7, Stack: 100, Code: make([]api.Inst, 3)}); n != args+1 || e != api.OK {
			t.Errorf("Words(%s) = %d, %d", desc, n, e)
		}
	}
}

func TestWordsOfNoDescriptors(t *testing.T) {
	for _, desc := range []string{"", "x", "(", ")", "()", "V", "I", "(V)V", "()VV", "()V ", " ()V", "(I)", "(I", "I)V", "(LA)V", "(L;)V", "()L;", "([)V", "()[V", "(p/A)V", "\xff", "(" + strings.Repeat("I", 21) + ")V", "()" + strings.Repeat("[", 256) + "I", "()L" + nameOf(61) + ";", strings.Repeat("(", 100000), "(" + strings.Repeat("I", 100000) + ")V"} {
		for _, f := range []int{0, api.Static, -1} {
			if n, e := Words(api.Method{Name: "m", Desc: desc, Flags: f, Locals: 5}); n != 0 || e != api.ErrForm {
				t.Errorf("Words(%.100q, %d) = %d, %d", desc, f, n, e)
			}
		}
	}
}

// P5.4

func TestPrintExamples(t *testing.T) {
	for text, c := range map[string]api.Class{exampleText: exampleClass(), ifaceText: exampleIface(), fullText: fullClass(), "class A\nsuper B\nflags\nloader 3\nend\n": {Name: "A", Super: "B", Loader: 3}} {
		if s, e := Print(c); s != text || e != api.OK {
			t.Errorf("Print = %q, %d; want %q", s, e, text)
		}
		if got, line, e := Parse(text); !same(got, c) || line != 0 || e != api.OK {
			t.Errorf("Parse(%q) = %v, %d, %d", text, got, line, e)
		}
	}
}

func TestPrintOfTurnedClasses(t *testing.T) {
	for _, one := range allTurned() {
		want, wantErr := "", api.ErrForm
		if one.sound {
			want, wantErr = textOf(one.class), api.OK
		}
		s, e := Print(one.class)
		if s != want || e != wantErr {
			t.Errorf("Print, %s: %.300q, %d; want %.300q, %d", one.what, s, e, want, wantErr)
		}
		if one.sound {
			if c, line, e := Parse(s); !same(c, one.class) || line != 0 || e != api.OK {
				t.Errorf("Parse(Print), %s: %s, %d, %d", one.what, show(c), line, e)
			}
		}
	}
}

func TestEachInstructionThereAndBack(t *testing.T) {
	var all []api.Inst
	for op := api.IConst; op <= api.PrintClass; op++ {
		all = append(all, map[int]api.Inst{0: {}, 1: {N: math.MinInt32}, 2: {N: 2}, 3: {N: 39}, 4: {Type: "p/A"}, 5: {Type: "[Lp;"}, 6: {Type: "I"}, 7: {N: 2, Type: "[[[I"}, 8: {Ref: api.Ref{Iface: true, Class: "[I", Name: "<init>", Desc: "(I)V"}}}[code.Operand(op)])
		all[len(all)-1].Op = op
	}
	c := api.Class{Name: "A", Super: "B", Flags: api.Final, Methods: []api.Method{{Name: "m", Desc: "(II)V", Locals: 3, Code: all}, {Name: "m", Desc: "(II)I", Flags: api.Protected, Locals: 3, Code: all}}}
	s, e := Print(c)
	if s != textOf(c) || e != api.OK {
		t.Fatalf("Print = %q, %d", s, e)
	}
	if got, line, e := Parse(s); !same(got, c) || line != 0 || e != api.OK {
		t.Errorf("Parse(%q) = %v, %d, %d", s, got, line, e)
	}
	lines := strings.Split(s, "\n")
	if len(lines) != 5+2*(3+40)+1 {
		t.Errorf("%d lines", len(lines))
	}
}

func TestAllFlagsThereAndBack(t *testing.T) {
	taken := 0
	for f := range 1 << 11 {
		for _, c := range []api.Class{{Name: "A", Super: "B", Flags: f}, {Name: "A", Super: "B", Methods: []api.Method{{Name: "m", Desc: "()V", Flags: f, Locals: 1, Code: manyReturns(1)}}}, {Name: "A", Super: "B", Methods: []api.Method{{Name: "m", Desc: "()V", Flags: f}}}} {
			s, e := Print(c)
			if !isSoundClass(c) {
				if s != "" || e != api.ErrForm {
					t.Errorf("Print(%v) = %q, %d", c, s, e)
				}
				continue
			}
			taken++
			if got, line, parseErr := Parse(s); s != textOf(c) || e != api.OK || !same(got, c) || line != 0 || parseErr != api.OK {
				t.Errorf("Print(%v) = %q, %d; Parse = %v, %d, %d", c, s, e, got, line, parseErr)
			}
		}
	}
	if taken < 20 {
		t.Errorf("only %d taken", taken)
	}
}

// P5.5

func TestParseExamples(t *testing.T) {
	expect(t, "", 1, api.ErrText)
	expect(t, "class p/A\n", 2, api.ErrText)
	expect(t, "class p/A\nflags\n", 2, api.ErrText)
	expect(t, exampleText+"end\n", 11, api.ErrText)
	expect(t, strings.Replace(exampleText, "loader 0", "loader 00", 1), 4, api.ErrText)
	expect(t, strings.Replace(exampleText, "loader 0", "loader 10", 1), 0, api.ErrForm)
	expect(t, strings.Replace(exampleText, "flags public super", "flags ", 1), 3, api.ErrText)
	expect(t, strings.Replace(exampleText, "flags public super", "flags", 1), 0, api.OK)
}

// linesOf answers the lines of the full text without their ends; the line with number n is at n-1.
func linesOf(text string) []string {
	return strings.Split(strings.TrimSuffix(text, "\n"), "\n")
}

// kindsAt answers the kinds of the full text's lines.
func kindsAt(lines []string) []string {
	var all []string
	for _, line := range lines {
		kind, _ := kindOf(line)
		all = append(all, kind)
	}
	return all
}

func TestParseLineLeftOut(t *testing.T) {
	lines := linesOf(fullText)
	for place, kind := range kindsAt(lines) {
		text := strings.Join(slices.Delete(slices.Clone(lines), place, place+1), "\n") + "\n"
		switch kind {
		case "iface", "inst":
			// What may be left out: then the class is sound or not.
			checkParse(t, text)
		default:
			expect(t, text, place+1, api.ErrText)
		}
	}
	expect(t, strings.Replace(fullText, "iface p/I\n", "", 1), 0, api.OK)
	expect(t, strings.Replace(fullText, "ireturn\n", "", 1), 0, api.OK)
	expect(t, strings.Replace(fullText, "\nreturn\n", "\n", 1), 0, api.ErrForm)
}

func TestParseLineDoubled(t *testing.T) {
	lines := linesOf(fullText)
	for place, kind := range kindsAt(lines) {
		text := strings.Join(slices.Insert(slices.Clone(lines), place, lines[place]), "\n") + "\n"
		switch kind {
		case "iface":
			expect(t, text, 0, api.ErrForm)
		case "inst":
			checkParse(t, text)
		default:
			expect(t, text, place+2, api.ErrText)
		}
	}
}

func TestParseLinesMoved(t *testing.T) {
	lines := linesOf(fullText)
	for from := range lines {
		for to := range lines {
			moved := slices.Delete(slices.Clone(lines), from, from+1)
			moved = slices.Insert(moved, to, lines[from])
			checkParse(t, strings.Join(moved, "\n")+"\n")
			swapped := slices.Clone(lines)
			swapped[from], swapped[to] = swapped[to], swapped[from]
			checkParse(t, strings.Join(swapped, "\n")+"\n")
			put := slices.Insert(slices.Clone(lines), to, lines[from])
			checkParse(t, strings.Join(put, "\n")+"\n")
		}
	}
}

// Behind a head of each kind of line, each kind of line is held against what may follow.
func TestParseWhatMayFollow(t *testing.T) {
	heads := map[string]string{"": "", "class": "class A\n", "super": "class A\nsuper B\n", "iface": "class A\nsuper B\niface I\n", "flags": "class A\nsuper B\nflags\n", "loader": "class A\nsuper B\nflags\nloader 0\n"}
	heads["method"] = heads["loader"] + "method m ()V\n"
	heads["locals"] = heads["method"] + "locals 1\n"
	heads["stack"] = heads["locals"] + "stack 0\n"
	heads["inst"] = heads["stack"] + "return\n"
	heads["end"] = heads["inst"] + "end\n"
	if len(heads) != len(followers) {
		t.Fatalf("%d heads", len(heads))
	}
	lines := map[string]string{"class": "class A", "super": "super B", "iface": "iface J", "flags": "flags", "loader": "loader 0", "method": "method n ()V", "locals": "locals 1", "stack": "stack 0", "inst": "return", "end": "end", "none": "", "other": "x", "word": "methods m ()V"}
	for last, head := range heads {
		number := strings.Count(head, "\n") + 1
		for kind, line := range lines {
			// A line that may never stand, behind it, tells where reading stopped.
			want := number
			if slices.Contains(followers[last], kind) {
				want++
			}
			expect(t, head+line+"\n?\n", want, api.ErrText)
			// Without a byte 10 at its end none may stand.
			if last != "end" || line != "" {
				expect(t, head+line, number, api.ErrText)
			}
		}
	}
}

func TestParseBlanks(t *testing.T) {
	lines := linesOf(fullText)
	for place, line := range lines {
		put := func(other string) string {
			turned := slices.Clone(lines)
			turned[place] = other
			return strings.Join(turned, "\n") + "\n"
		}
		expect(t, put(" "+line), place+1, api.ErrText)
		expect(t, put(line+" "), place+1, api.ErrText)
		checkParse(t, put(line+"\r"))
		for at := range len(line) {
			if line[at] == ' ' {
				expect(t, put(line[:at]+" "+line[at:]), place+1, api.ErrText)
				checkParse(t, put(line[:at]+"\n"+line[at+1:]))
				checkParse(t, put(line[:at]+line[at+1:]))
				checkParse(t, put(line[:at]+"\t"+line[at+1:]))
			}
		}
		expect(t, put("\n"+line), place+1, api.ErrText)
	}
	// Too few.
	for _, turned := range []struct {
		from, to string
		line     int
	}{{"class p/B", "classp/B", 1}, {"super p/A", "superp/A", 2}, {"iface q/J", "ifaceq/J", 4}, {"flags abstract", "flagsabstract", 5}, {"loader 9", "loader9", 6}, {"method s", "methods", 14}, {"public static", "publicstatic", 14}, {"locals 40", "locals40", 15}, {"stack 40", "stack40", 16}, {"iload 0", "iload0", 17}} {
		expect(t, strings.Replace(fullText, turned.from, turned.to, 1), turned.line, api.ErrText)
	}
	// The line may still stand: its name is s(II)I and its descriptor public.
	expect(t, strings.Replace(fullText, "s (II)I", "s(II)I", 1), 0, api.ErrForm)
}

func TestParseNumbers(t *testing.T) {
	for _, at := range []struct {
		from string
		line int
	}{{"loader 9", 6}, {"locals 40", 15}, {"stack 40", 16}} {
		word := strings.Fields(at.from)[0]
		put := func(number string) string { return strings.Replace(fullText, at.from, word+" "+number, 1) }
		for _, number := range []string{"", "00", "01", "09", "0400", "000000000", "012345678", "1000000000", "2147483648", "4294967296", "9999999999", "0000000000", "18446744073709551616", strings.Repeat("9", 1000), "+1", "+9", "+0", "-0", "-1", "-", "+", "1.0", "1e1", "0x1", "1_0", "x", "1x", "x1", "1 ", " 1", "1 1", "1\t", "\t1", "\u0661", "\uff11", "\xff", "1\x00", "nine"} {
			expect(t, put(number), at.line, api.ErrText)
		}
		for _, number := range []string{"999999999", "100000000", "123456789", "41", "12345"} {
			expect(t, put(number), 0, api.ErrForm)
		}
		for n := range 120 {
			checkParse(t, put(strconv.Itoa(n)))
		}
	}
	expect(t, strings.Replace(fullText, "loader 9", "loader 0", 1), 0, api.OK)
	expect(t, strings.Replace(fullText, "locals 40", "locals 2", 1), 0, api.OK)
	expect(t, strings.Replace(fullText, "stack 40", "stack 0", 1), 0, api.OK)
}

func TestParseNames(t *testing.T) {
	for line, from := range map[int]string{1: "class p/B", 2: "super p/A", 3: "iface p/I"} {
		word := strings.Fields(from)[0]
		put := func(name string) string { return strings.Replace(fullText, from, word+" "+name, 1) }
		for _, name := range []string{"", " ", "A B", "A ", " A", "  "} {
			expect(t, put(name), line, api.ErrText)
		}
		// Any bytes but blanks may stand; then the class is not sound.
		for _, name := range []string{"\t", "\x00", "\xff", "\r", "p//A", "1", "[I", "<init>", "\u00a0", "é", nameOf(61), nameOf(5000), "A\tB", "("} {
			expect(t, put(name), 0, api.ErrForm)
		}
		expect(t, put("end"), 0, api.OK)
		expect(t, put("class"), 0, api.OK)
		expect(t, put("super"), 0, api.OK)
		expect(t, put(nameOf(60)), 0, api.OK)
	}
}

func TestParseMethodLines(t *testing.T) {
	const from = "method s (II)I public static final"
	put := func(line string) string { return strings.Replace(fullText, from, line, 1) }
	for _, line := range []string{
		"method", "method ", "method  ", "method   ", "method s", "method s ", "method s  ", "method  s", "method  s (II)I", "method s  (II)I", "method  (II)I", "method  (II)I static", "method s (II)I ", "method s (II)I  ", "method s (II)I  static", "method s (II)I static ",
		"method s (II)I static public", "method s (II)I static static", "method s (II)I public final static", "method s (II)I super", "method s (II)I interface", "method s (II)I public interface", "method s (II)I Public", "method s (II)I x", "method s (II)I public x", "method s (II)I public,static", "method s (II)I 1", "method s (II) I", "method s (I I)I static", "method s p (II)I", "methods (II)I", "Method s (II)I static", "method\ts (II)I", " method s (II)I",
		"method s (II)I public\tstatic", "method s (II)I \tstatic", "method s (II)I static\r", "method s (II)I \xff", "endmethod s (II)I", "end method s (II)I",
	} {
		expect(t, put(line), 14, api.ErrText)
	}
	for _, line := range []string{"method s x", "method p/s (II)I", "method s (II)I public private", "method s (II)I static abstract", "method \xff \xfe", "method 1 2 static", "method s (II)I\t static", "method <init> (II)I", "method n (I)V static", "method s (" + strings.Repeat("I", 21) + ")V static"} {
		expect(t, put(line), 0, api.ErrForm)
	}
	for _, line := range []string{"method s (II)I", "method s (II)I public", "method s (II)I static", "method s (II)V protected static final", "method s ()V private", "method method (LI;)V final", "method end ()V", "method locals (II)V static"} {
		expect(t, put(line), 0, api.OK)
	}
}

func TestParseFlagsLines(t *testing.T) {
	put := func(line string) string { return strings.Replace(fullText, "flags abstract", line, 1) }
	for _, line := range []string{"flag", "flags ", "flags  ", "flags  public", "flags public ", "flags public  super", "flags super public", "flags public public", "flags private", "flags static", "flags protected", "flags Public", "flags x", "flags public x", "flags public,super", "flags\tpublic", "flags\t", "Flags", " flags", "flagspublic", "flags 1", "flags public\t", "flags abstract super", "flags interface public abstract"} {
		expect(t, put(line), 5, api.ErrText)
	}
	for _, line := range []string{"flags final abstract", "flags interface", "flags public interface", "flags super interface abstract", "flags public final super interface abstract", "flags interface abstract"} {
		expect(t, put(line), 0, api.ErrForm)
	}
	for _, line := range []string{"flags", "flags public", "flags final", "flags public super", "flags public final super", "flags super abstract"} {
		expect(t, put(line), 0, api.OK)
	}
}

func TestParseInstructions(t *testing.T) {
	put := func(line string) string { return strings.Replace(fullText, "iconst -5", line, 1) }
	for _, line := range []string{"", " ", "iconst", "iconst ", "iconst  5", "iconst 05", "iconst +5", "iconst -0", "iconst 5 ", " iconst 5", "iconst 2147483648", "Iconst 5", "nop", "iload -1", "iload 40", "goto 200", "ireturn 0", "ireturn ", "new", "new [I", "multinew 2 [I", "newarray V", "invokevirtual p/A.m", "invokestatic p/B.s (II)I", "end ", "END", "ends", "iface p/I", "flags", "locals 1", "stack 1", "loader 0", "class A", "super A", "?", "\x00", "\xff", "5", "iconst 5;"} {
		expect(t, put(line), 19, api.ErrText)
	}
	for _, line := range []string{"goto 6", "goto 199", "ifeq 6"} {
		expect(t, put(line), 0, api.ErrForm)
	}
	for _, line := range []string{"iconst 5", "iload 39", "goto 5", "new Q", "print", "checkcast [[I", "invokeinterface p/I:m()V", "newarray Lp/A;"} {
		expect(t, put(line), 0, api.OK)
	}
	// Code in an abstract method, and none in one that is not, may stand; then the class is not sound.
	expect(t, strings.Replace(fullText, "stack 0\nmethod s", "stack 0\nreturn\nmethod s", 1), 0, api.ErrForm)
	expect(t, strings.Replace(fullText, "stack 1\nreturn\nend", "stack 1\nend", 1), 0, api.ErrForm)
	expect(t, strings.Replace(fullText, "return\n", "", 1), 0, api.ErrForm)
}

func TestParseEnds(t *testing.T) {
	for _, text := range []string{exampleText, ifaceText, fullText} {
		count := strings.Count(text, "\n")
		expect(t, text, 0, api.OK)
		for _, behind := range []string{"\n", " ", "x", "end", "end\n", "class A\n", "\n\n", "\x00", "\r", " \n", text} {
			expect(t, text+behind, count+1, api.ErrText)
		}
		// Every head of the text asks for more; only a piece that is not ended is at fault.
		for size := range len(text) {
			expect(t, text[:size], strings.Count(text[:size], "\n")+1, api.ErrText)
		}
		expect(t, strings.TrimSuffix(text, "\n"), count, api.ErrText)
		expect(t, "\n"+text, 1, api.ErrText)
		expect(t, " "+text, 1, api.ErrText)
		expect(t, "\ufeff"+text, 1, api.ErrText)
		expect(t, strings.ReplaceAll(text, "\n", "\r"), 1, api.ErrText)
		expect(t, strings.ReplaceAll(text, "\n", "\n\n"), 2, api.ErrText)
		// A byte 13 is a part of the name ahead of it in the first lines; the line of flags takes none.
		checkParse(t, strings.ReplaceAll(text, "\n", "\r\n"))
	}
	expect(t, "\n", 1, api.ErrText)
	expect(t, "end\n", 1, api.ErrText)
	expect(t, "class A", 1, api.ErrText)
	expect(t, "class A\nsuper B\nflags\nloader 0\n", 5, api.ErrText)
	expect(t, "class A\nsuper B\nflags\nloader 0\nend", 5, api.ErrText)
	expect(t, "class A\nsuper B\nflags\nloader 0\nend\n", 0, api.OK)
	expect(t, strings.Repeat("class A\n", 2000), 2, api.ErrText)
	expect(t, strings.Repeat("\n", 40000), 1, api.ErrText)
}

// The first of several faults is told; a class that is not sound is told last of all.
func TestParseFirstFault(t *testing.T) {
	lines := linesOf(fullText)
	for first := range lines {
		for _, second := range []int{first, first + 1, len(lines) - 1} {
			turned := slices.Clone(lines)
			turned[first] = "?"
			if second < len(lines) {
				turned[second] = "?"
			}
			turned[0] = strings.Replace(turned[0], "class p/B", "class 1", 1)
			expect(t, strings.Join(turned, "\n")+"\n", first+1, api.ErrText)
		}
	}
}

// padded answers the text of a sound class that has so many bytes, from 1000 on.
func padded(size int) string {
	text := "class p/A\nsuper Object\nflags\nloader 0\n"
	room := func() int { return size - len(text) - len("end\n") }
	for n := 0; ; n++ {
		text += "method m" + strconv.Itoa(n) + " ()V static\nlocals 0\nstack 0\n"
		for range 100 {
			if room() >= 300 {
				text += "new " + nameOf(60) + "\n"
			}
		}
		if room() < 300 {
			// Lines of five bytes leave a multiple of four for those of four.
			text += strings.Repeat("swap\n", room()%4)
			text += strings.Repeat("pop\n", room()/4)
			return text + "end\n"
		}
	}
}

func TestParseLarge(t *testing.T) {
	for _, size := range []int{39999, 40000, 40001, 40002, 50000} {
		text := padded(size)
		if len(text) != size {
			t.Fatalf("%d bytes, not %d", len(text), size)
		}
		want := api.OK
		if size > api.MaxShape {
			want = api.ErrLarge
		}
		expect(t, text, 0, want)
	}
	for _, b := range []string{"x", "\n", " ", "\xff"} {
		expect(t, strings.Repeat(b, 40000), 1, api.ErrText)
		expect(t, strings.Repeat(b, 40001), 0, api.ErrLarge)
		expect(t, strings.Repeat(b, 1<<22), 0, api.ErrLarge)
	}
	expect(t, exampleText+strings.Repeat("\n", 40000-len(exampleText)), 11, api.ErrText)
	expect(t, exampleText+strings.Repeat("\n", 40001-len(exampleText)), 0, api.ErrLarge)
}

// A sound class whose text is beyond MaxShape is printed, but its text isn't taken.
func TestPrintBeyondMaxShape(t *testing.T) {
	c := api.Class{Name: "A", Super: "B"}
	for n := range 40 {
		c.Methods = append(c.Methods, api.Method{Name: "m" + strconv.Itoa(n), Desc: "()V", Locals: 1, Code: slices.Repeat([]api.Inst{{Op: api.IConst, N: math.MinInt32}}, 200)})
	}
	s, e := Print(c)
	if s != textOf(c) || e != api.OK || len(s) <= api.MaxShape {
		t.Errorf("%d bytes, %d", len(s), e)
	}
	expect(t, s, 0, api.ErrLarge)
}

// Texts of more interfaces, methods or instructions than a class may have, all of whose lines may stand.
func TestParseOfTooMany(t *testing.T) {
	for _, count := range []int{19, 20, 21, 2000} {
		lines := ""
		for n := range count {
			lines += "iface I" + strconv.Itoa(n) + "\n"
		}
		expect(t, "class A\nsuper B\n"+lines+"flags\nloader 0\nend\n", 0, map[bool]api.Errno{true: api.OK, false: api.ErrForm}[count <= 20])
	}
	for _, count := range []int{39, 40, 41, 500} {
		lines := ""
		for n := range count {
			lines += "method m" + strconv.Itoa(n) + " ()V abstract\nlocals 0\nstack 0\n"
		}
		expect(t, "class A\nsuper B\nflags abstract\nloader 0\n"+lines+"end\n", 0, map[bool]api.Errno{true: api.OK, false: api.ErrForm}[count <= 40])
	}
	for _, count := range []int{1, 199, 200, 201, 4000} {
		expect(t, "class A\nsuper B\nflags\nloader 0\nmethod m ()V static\nlocals 0\nstack 0\n"+strings.Repeat("return\n", count)+"end\n", 0, map[bool]api.Errno{true: api.OK, false: api.ErrForm}[count <= 200])
	}
}

// The text of each class that is not sound, where its lines may stand, is told as not sound.
func TestParseOfUnsoundClasses(t *testing.T) {
	unsound := 0
	for _, one := range allTurned() {
		text := textOf(one.class)
		checkParse(t, text)
		if _, _, e := Parse(text); e == api.ErrForm {
			unsound++
		}
	}
	if unsound < 50 {
		t.Errorf("only %d texts of classes that are not sound", unsound)
	}
}

func TestParseOfNeighbours(t *testing.T) {
	for _, text := range []string{exampleText, ifaceText, fullText} {
		for place := range len(text) {
			head, tail := text[:place], text[place:]
			checkParse(t, head+tail[1:])
			checkParse(t, head+tail[:1]+tail)
			for _, b := range []string{" ", "\n", "\t", "0", "9", "a", "I", "-", "\x00", "\xff", "/", "("} {
				checkParse(t, head+b+tail)
				checkParse(t, head+b+tail[1:])
			}
		}
	}
}

func TestParseOfAnyTexts(t *testing.T) {
	source := rand.New(rand.NewSource(5))
	pieces := []string{"class", "super", "iface", "flags", "loader", "method", "locals", "stack", "end", "p/A", "Object", "m", "()V", "()I", "public", "static", "abstract", "0", "1", "9", "40", "return", "iconst", "goto", " ", " ", " ", "\n", "\n", "\n", "\x00", "\xff"}
	lines := append(linesOf(fullText), "class A", "super B", "iface I", "flags public", "flags", "loader 0", "method m ()V", "method x y static", "locals 0", "stack 0", "return", "end", "end", "")
	for range 20000 {
		s := ""
		for range source.Intn(12) {
			s += pieces[source.Intn(len(pieces))]
		}
		checkParse(t, s)
		s = ""
		for range source.Intn(8) {
			s += lines[source.Intn(len(lines))] + "\n"
		}
		checkParse(t, s)
		checkParse(t, "class A\nsuper B\nflags\nloader 0\n"+s)
		checkParse(t, "class A\nsuper B\nflags\nloader 0\n"+s+"end\n")
		checkParse(t, "class A\nsuper B\n"+s+"end\n")
		raw := make([]byte, source.Intn(30))
		for place := range raw {
			raw[place] = byte(source.Intn(256))
		}
		checkParse(t, string(raw))
		checkParse(t, "class A\nsuper "+string(raw)+"\nflags\nloader 0\nend\n")
	}
}

// randomClass is often sound, and often not, by a part or two.
func randomClass(source *rand.Rand) api.Class {
	pick := func(texts ...string) string { return texts[source.Intn(len(texts))] }
	c := api.Class{Name: pick("A", "p/A", "p/B", "q/C", nameOf(60), "A", "B", "p//"), Super: pick("Object", "p/A", "B"), Loader: source.Intn(11)}
	for range source.Intn(4) {
		c.Ifaces = append(c.Ifaces, pick("I", "J", "K", "p/I", "p/J", "q/K", "A"))
	}
	c.Flags = []int{0, api.Public, api.Super, api.Final, api.AbstractFl, api.Public | api.Super, api.Interface | api.AbstractFl, api.Interface}[source.Intn(8)]
	for range source.Intn(4) {
		m := api.Method{Name: pick("m", "n", "o", "<init>"), Desc: pick("()V", "(I)V", "(I[I)V", "()I"), Flags: []int{api.Public, api.Public, 0, api.Private, api.Static, api.Public | api.Static, api.Public | api.AbstractFl}[source.Intn(7)]}
		if m.Flags&api.AbstractFl == 0 || source.Intn(20) == 0 {
			m.Locals, m.Stack = 1+source.Intn(4), source.Intn(42)
			for range 1 + source.Intn(4) {
				m.Code = append(m.Code, []api.Inst{{Op: api.Return}, {Op: api.IConst, N: -9}, {Op: api.Goto, N: source.Intn(3)}, {Op: api.ILoad, N: source.Intn(2)}}[source.Intn(4)])
			}
		}
		c.Methods = append(c.Methods, m)
	}
	return c
}

func TestRandomClasses(t *testing.T) {
	source := rand.New(rand.NewSource(55))
	count := map[api.Errno]int{}
	for range 30000 {
		c := randomClass(source)
		before := tidy(c)
		want, wantText := api.ErrForm, ""
		if isSoundClass(c) {
			want, wantText = api.OK, textOf(c)
		}
		count[want]++
		if e := Check(c); e != want {
			t.Fatalf("Check(%v) = %d", c, e)
		}
		s, e := Print(c)
		if s != wantText || e != want {
			t.Fatalf("Print(%v) = %q, %d", c, s, e)
		}
		if !same(c, before) {
			t.Fatalf("%v has become %v", before, c)
		}
		checkParse(t, textOf(c))
		if got, line, e := Parse(s); want == api.OK && (!same(got, c) || line != 0 || e != api.OK) {
			t.Fatalf("Parse(Print(%v)) = %v, %d, %d", c, got, line, e)
		}
	}
	if count[api.OK] < 1000 || count[api.ErrForm] < 1000 {
		t.Errorf("%v", count)
	}
}

// R4

// roomy answers the class with spare room behind each of its lists, full of what would not be sound.
func roomy(c api.Class) (api.Class, func() bool) {
	ifaces := append(slices.Clone(c.Ifaces), "1", "1")
	methods := append(slices.Clone(c.Methods), api.Method{Name: "spare"}, c.Methods[0])
	var codes [][]api.Inst
	for place := range c.Methods {
		codes = append(codes, append(slices.Clone(c.Methods[place].Code), api.Inst{Op: 99}))
		methods[place].Code = codes[place][:len(c.Methods[place].Code)]
	}
	keptIfaces, keptMethods, keptCodes := slices.Clone(ifaces), slices.Clone(methods), make([][]api.Inst, len(codes))
	for place := range codes {
		keptCodes[place] = slices.Clone(codes[place])
	}
	out := c
	out.Ifaces, out.Methods = ifaces[:len(c.Ifaces)], methods[:len(c.Methods)]
	return out, func() bool {
		return slices.Equal(ifaces, keptIfaces) && reflect.DeepEqual(methods, keptMethods) && reflect.DeepEqual(codes, keptCodes)
	}
}

func TestWhatIsHandedInStays(t *testing.T) {
	for _, from := range []func() api.Class{exampleClass, exampleIface, fullClass} {
		c, unchanged := roomy(from())
		if e := Check(c); e != api.OK {
			t.Errorf("Check = %d", e)
		}
		if s, e := Print(c); s != textOf(from()) || e != api.OK {
			t.Errorf("Print = %q, %d", s, e)
		}
		if got := Find(c, "spare", ""); got != -1 {
			t.Errorf("Find = %d", got)
		}
		for _, m := range c.Methods {
			if _, e := Words(m); e != api.OK {
				t.Errorf("Words = %d", e)
			}
		}
		if !unchanged() || !same(c, from()) {
			t.Errorf("%v has changed", c)
		}
	}
}

func TestParseAnswersNewMemory(t *testing.T) {
	first, _, _ := Parse(fullText)
	second, _, _ := Parse(fullText)
	// Growing one list, or writing into it, must show nowhere else.
	for place := range first.Methods {
		before := tidy(first)
		grown := append(first.Methods[place].Code, api.Inst{Op: 77}, api.Inst{Op: 78})
		if !same(first, before) {
			t.Errorf("growing the code of method %d has changed another list", place)
		}
		for at := range grown {
			grown[at].Op = 79
		}
		for other := range first.Methods {
			if other != place && !slices.Equal(first.Methods[other].Code, before.Methods[other].Code) {
				t.Errorf("writing over the code of method %d has changed that of %d", place, other)
			}
		}
	}
	_ = append(first.Ifaces, "x")
	_ = append(first.Methods, api.Method{Name: "x"})
	first.Ifaces[0], first.Methods[0].Name = "y", "y"
	third, _, _ := Parse(fullText)
	if !same(second, fullClass()) || !same(third, fullClass()) {
		t.Error("one answer has changed another")
	}
}

// The same question has the same answer each time.
func TestOneAnswer(t *testing.T) {
	for range 50 {
		expect(t, fullText, 0, api.OK)
		expect(t, fullText+"x", 28, api.ErrText)
	}
}

// Ways: what is wrong with a line goes up as a wrapped error.
func TestWhatIsWrongWithALine(t *testing.T) {
	for _, c := range []struct {
		text  string
		line  int
		cause error
		says  string
	}{
		{"class A\nflags\n", 2, errOrder, "line 2: not one of the lines that may come here"},
		{"class A\nsuper B\nflags x\n", 3, errPart, "line 3: a part of the line is not of the form asked for"},
		{"class A\nsuper B\niface \n", 3, errPart, "line 3: a part of the line is not of the form asked for"},
		{"class A", 1, errOpen, "line 1: the line is not ended"},
	} {
		_, err := readLines(c.text)
		var fault lineError
		if !errors.As(err, &fault) || fault.line != c.line || !errors.Is(err, c.cause) || err.Error() != c.says {
			t.Errorf("%q: %v", c.text, err)
		}
	}
	if _, err := readLines(fullText); err != nil {
		t.Errorf("%v", err)
	}
}
