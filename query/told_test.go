package query

import (
	"fmt"
	"maps"
	"math/rand"
	"regexp"
	"slices"
	"strings"
	"testing"

	"arbiter/api"
	"arbiter/arrays"
	"arbiter/choose"
	"arbiter/hier"
	"arbiter/itable"
	"arbiter/link"
	"arbiter/override"
	"arbiter/resolve"
	"arbiter/vtable"
)

// told is the chapter a second time: words are told by patterns, classes by a bare list, tables by the definition and not by a linker. What a question asks of the layers below is asked of the world.
type told struct {
	world   *hier.World
	classes []api.Class
}

func newTold(w *hier.World) told {
	x := told{world: w}
	for id := range w.Len() {
		c, _ := w.Class(id)
		x.classes = append(x.classes, c)
	}
	return x
}

const (
	partForm = `[a-zA-Z_$][a-zA-Z_$0-9]*`
	nameForm = `(?:` + partForm + `/)*` + partForm
	typeForm = `\[*(?:I|L` + nameForm + `;)`
)

var (
	linePattern  = regexp.MustCompile(`\A[^ ]+(?: [^ ]+)*\z`)
	wordPattern  = regexp.MustCompile(`[^ ]+`)
	namePattern  = regexp.MustCompile(`\A` + nameForm + `\z`)
	typePattern  = regexp.MustCompile(`\A(\[*)(?:I|L(` + nameForm + `);)\z`)
	arrayPattern = regexp.MustCompile(`\A\[+(?:I|L` + nameForm + `;)\z`)
	refPattern   = regexp.MustCompile(`\A([^.:]+)([.:])(` + partForm + `|<init>)(\((?:` + typeForm + `)*\)(?:V|` + typeForm + `))\z`)
	anyType      = regexp.MustCompile(typeForm)
)

func isName(text string) bool {
	return len(text) <= 60 && namePattern.MatchString(text)
}

func readType(text string) (api.Type, bool) {
	cut := typePattern.FindStringSubmatch(text)
	if cut == nil {
		return api.Type{}, false
	}
	return api.Type{Dims: len(cut[1]), Name: cut[2]}, len(cut[1]) <= 255 && len(cut[2]) <= 60
}

func readReference(text string) (api.Type, bool) {
	if arrayPattern.MatchString(text) {
		return readType(text)
	}
	return api.Type{Name: text}, isName(text)
}

func readRef(text string) (api.Ref, bool) {
	cut := refPattern.FindStringSubmatch(text)
	if cut == nil {
		return api.Ref{}, false
	}
	r := api.Ref{Iface: cut[2] == ":", Class: cut[1], Name: cut[3], Desc: cut[4]}
	_, sound := readReference(r.Class)
	for _, one := range anyType.FindAllString(r.Desc, -1) {
		_, ok := readType(one)
		sound = sound && ok
	}
	args := anyType.FindAllString(r.Desc[:strings.Index(r.Desc, ")")], -1)
	return r, sound && len(r.Name) <= 60 && len(r.Desc) <= 2000 && len(args) <= 20
}

// number answers -1, if there is no such class.
func (x told) number(name string) int {
	return slices.IndexFunc(x.classes, func(c api.Class) bool { return c.Name == name })
}

func (x told) isIface(id int) bool {
	return x.classes[id].Flags&api.Interface != 0
}

// write answers the text of a method that is there.
func (x told) write(m api.MethodID) string {
	c := x.classes[m.Class]
	mark := "."
	if x.isIface(m.Class) {
		mark = ":"
	}
	return fmt.Sprint(c.Name, mark, c.Methods[m.Index].Name, c.Methods[m.Index].Desc)
}

func (x told) name(m api.MethodID) (string, api.Errno) {
	for _, one := range x.all() {
		if one == m {
			return x.write(m), api.OK
		}
	}
	return "", api.ErrRange
}

// all are the methods of all classes.
func (x told) all() []api.MethodID {
	var out []api.MethodID
	for c := range x.classes {
		out = append(out, x.of(c)...)
	}
	return out
}

func (x told) of(class int) []api.MethodID {
	var out []api.MethodID
	for index := range x.classes[class].Methods {
		out = append(out, id(class, index))
	}
	return out
}

// find goes through all methods there are, and only then asks why it was none of them.
func (x told) find(text string) (api.MethodID, api.Errno) {
	for _, m := range x.all() {
		if x.write(m) == text {
			return m, api.OK
		}
	}
	r, ok := readRef(text)
	c := x.number(r.Class)
	switch {
	case !ok || r.Class[0] == '[':
		return api.MethodID{}, api.ErrText
	case c < 0:
		return api.MethodID{}, api.NoClassDef
	case r.Iface != x.isIface(c):
		return api.MethodID{}, api.Incompatible
	}
	return api.MethodID{}, api.NoSuchMethod
}

// ask goes by the table's lines as they stand in the chapter.
func (x told) ask(line string) ([]string, api.Errno) {
	if len(line) > 2000 {
		return nil, api.ErrLarge
	}
	if !linePattern.MatchString(line) {
		return nil, api.ErrText
	}
	words := wordPattern.FindAllString(line, -1)
	for _, form := range formsOf() {
		if places := strings.Fields(form); places[0] == words[0] {
			return x.askBy(places, words)
		}
	}
	return nil, api.ErrWord
}

func (x told) askBy(places, words []string) ([]string, api.Errno) {
	if len(places) != len(words) {
		return nil, api.ErrArg
	}
	for at, place := range places {
		if e := x.wrong(place, words[at]); e != api.OK {
			return nil, e
		}
	}
	return x.answer(words), api.OK
}

// wrong answers what is wrong with a word.
func (x told) wrong(place, word string) api.Errno {
	ok := true
	switch place {
	case "KIND":
		ok = slices.Contains([]string{"virtual", "interface", "special"}, word)
	case "REF":
		_, ok = readRef(word)
	case "RECV":
		_, ok = readReference(word)
	case "TYPE":
		_, ok = readType(word)
	case "METHOD":
		_, e := x.find(word)
		return e
	case "from":
		ok = word == "from"
	case "CLASS":
		if ok = isName(word); ok && x.number(word) < 0 {
			return api.NoClassDef
		}
	}
	if !ok {
		return api.ErrText
	}
	return api.OK
}

// answer takes words of which none is wrong.
func (x told) answer(words []string) []string {
	last := words[len(words)-1]
	switch words[0] {
	case "select":
		kind := 1 + slices.Index([]string{"virtual", "interface", "special"}, words[1])
		ref, _ := readRef(words[2])
		recv, _ := readReference(words[3])
		return []string{x.either(choose.Call(x.world, x.number(last), kind, ref, recv))}
	case "static":
		ref, _ := readRef(words[1])
		return []string{x.either(choose.Call(x.world, x.number(last), 4, ref, api.Type{Dims: -1}))}
	case "resolve":
		ref, _ := readRef(words[1])
		return []string{x.either(resolve.Method(x.world, x.number(last), ref))}
	case "below":
		lower, _ := readType(words[1])
		upper, _ := readType(words[2])
		return []string{orNot(arrays.Sub(x.world, lower, upper))}
	case "overrides":
		lower, _ := x.find(words[1])
		upper, _ := x.find(words[2])
		return []string{orNot(override.Overrides(x.world, lower, upper))}
	}
	return x.listed(words[0], x.number(last))
}

// listed answers what is asked of a class alone.
func (x told) listed(command string, class int) []string {
	var out []string
	switch command {
	case "vtable":
		slots, e := vtable.Build(x.world, class)
		if e != api.OK {
			return []string{fmt.Sprint("error ", int(e))}
		}
		for at, s := range slots {
			out = append(out, fmt.Sprint(at, " ", x.write(s.Root), " ", x.write(s.Method)))
		}
	case "itable":
		roots, e := itable.Roots(x.world, class)
		if e != api.OK {
			return []string{fmt.Sprint("error ", int(e))}
		}
		for _, root := range roots {
			out = append(out, fmt.Sprint(x.write(root), " ", x.either(choose.Interface(x.world, class, root)), " ", x.either(choose.Virtual(x.world, class, root))))
		}
	case "display":
		down := x.chain(class)
		slices.Reverse(down)
		cut := min(8, len(down))
		out = []string{named("primary", down[:cut]), named("deep", down[cut:]), named("secondary", x.closure(class))}
	case "chain":
		out = x.chain(class)
	case "closure":
		out = x.closure(class)
	case "methods":
		for _, m := range x.of(class) {
			out = append(out, x.write(m))
		}
	}
	return out
}

func named(word string, names []string) string {
	for _, name := range names {
		word += " " + name
	}
	return word
}

func (x told) chain(class int) []string {
	c := x.classes[class]
	if c.Super == "" {
		return []string{c.Name}
	}
	return append([]string{c.Name}, x.chain(x.number(c.Super))...)
}

func (x told) closure(class int) []string {
	c := x.classes[class]
	if c.Super == "" {
		return nil
	}
	all := x.closure(x.number(c.Super))
	for _, name := range c.Ifaces {
		all = append(append(all, x.closure(x.number(name))...), name)
	}
	var out []string
	for _, name := range all {
		if !slices.Contains(out, name) {
			out = append(out, name)
		}
	}
	return out
}

func (x told) either(m api.MethodID, e api.Errno) string {
	if e == api.OK {
		return x.write(m)
	}
	return fmt.Sprint("error ", int(e))
}

func orNot(yes bool, e api.Errno) string {
	if e != api.OK {
		return fmt.Sprint("error ", int(e))
	}
	return map[bool]string{true: "yes", false: "no"}[yes]
}

func pick[T any](r *rand.Rand, from ...T) T {
	return from[r.Intn(len(from))]
}

// randomMethods have few names, so that many meet, at places that turn.
func randomMethods(r *rand.Rand, inIface bool) []api.Method {
	all := []string{"m", "n", "m(I[LObject;)I", "id()I", "kin()LObject;", "<init>", "<init>(I)V"}
	if inIface {
		all = all[:5]
	}
	var out []api.Method
	for _, at := range r.Perm(len(all))[:r.Intn(5)] {
		flags := pick(r, normal, normal, normal, api.Protected, 0, api.Private)
		if inIface && flags != api.Private {
			flags = normal
		}
		switch isInit := all[at][0] == '<'; {
		case !isInit && r.Intn(5) == 0:
			flags |= api.Static
		case !isInit && flags != api.Private && r.Intn(4) == 0:
			flags |= api.AbstractFl
		}
		out = append(out, method(all[at], flags))
	}
	return out
}

// randomClass names classes that are there, more often than not late ones, so that chains grow long; a world may refuse it, since what it names may be shut.
func randomClass(r *rand.Rand, n int, there []api.Class) api.Class {
	isIface := r.Intn(3) == 0
	c := class(fmt.Sprint(pick(r, "", "p/", "p/", "q/"), "C", n), "Object", randomMethods(r, isIface)...)
	if isIface {
		c.Flags = api.Public | api.Interface | api.AbstractFl
	}
	if r.Intn(4) == 0 {
		c = old(c)
	}
	if r.Intn(8) == 0 {
		c = shut(c)
	}
	for range r.Intn(6) {
		above := there[max(r.Intn(len(there)), r.Intn(len(there)))]
		switch {
		case above.Flags&api.Interface == 0 && !isIface:
			c.Super = above.Name
		case above.Flags&api.Interface != 0 && !slices.Contains(c.Ifaces, above.Name):
			c.Ifaces = append(c.Ifaces, above.Name)
		}
	}
	return by(pick(r, 0, 0, 0, 0, 9), c)
}

// randomClasses can all arrive in this order behind the first three of a world.
func randomClasses(t testing.TB, seed int64, count int) []api.Class {
	t.Helper()
	r, w := rand.New(rand.NewSource(seed)), hier.New()
	for n := 0; w.Len() < count; n++ {
		c := randomClass(r, n, newTold(w).classes)
		if _, e := w.Define(c); e != api.OK && e != api.IllegalAccess {
			t.Fatalf("Define(%s): %d", show(c), e)
		}
	}
	return newTold(w).classes[3:]
}

// randomWord is mostly one that may stand there.
func (x told) randomWord(r *rand.Rand, place string) string {
	if r.Intn(25) == 0 {
		all := wrongWords(pick(r, place, place, "REF", "TYPE", "CLASS"))
		return pick(r, all[pick(r, slices.Sorted(maps.Keys(all))...)]...)
	}
	c := pick(r, x.classes...)
	switch place {
	case "KIND":
		return pick(r, "virtual", "virtual", "interface", "special")
	case "REF":
		return x.randomRef(r)
	case "RECV":
		return pick(r, c.Name, c.Name, c.Name, "[L"+c.Name+";", "[[L"+c.Name+";", "[I", "No", "[LNo;")
	case "TYPE":
		return strings.Repeat("[", pick(r, 0, 0, 0, 1, 2)) + pick(r, "I", "L"+c.Name+";", "L"+c.Name+";", "L"+c.Name+";", pick(r, "LNo;", "LObject;"))
	case "METHOD":
		return pick(r, x.write(pick(r, x.all()...)), x.write(pick(r, x.all()...)), x.write(pick(r, x.all()...)), x.randomRef(r))
	case "CLASS":
		return c.Name
	}
	return place
}

// randomRef mostly names a method by a class that is below its own.
func (x told) randomRef(r *rand.Rand) string {
	m := pick(r, x.all()...)
	text := x.write(m)
	cut := strings.IndexAny(text, ".:")
	c := r.Intn(len(x.classes))
	for tries := 0; tries < 20 && !x.world.Extends(c, m.Class); tries++ {
		c = r.Intn(len(x.classes))
	}
	mark := "."
	if x.isIface(c) != (r.Intn(20) == 0) {
		mark = ":"
	}
	name := x.classes[c].Name
	if r.Intn(20) == 0 {
		name = "no/Such"
	}
	return pick(r, text, text, name+mark+text[cut+1:], name+mark+text[cut+1:], "[L"+name+";."+text[cut+1:])
}

// randomLine mostly is one that is taken: once in a while a word is gone, or one too much, or a blank.
func (x told) randomLine(r *rand.Rand) string {
	form := pick(r, formsOf()...)
	if r.Intn(2) == 0 { // most is wrong with the longer forms
		form = pick(r, formsOf()[:5]...)
	}
	var words []string
	for _, place := range strings.Fields(form) {
		words = append(words, x.randomWord(r, place))
	}
	if ref, ok := readRef(words[min(2, len(words)-1)]); words[0] == "select" && ok && r.Intn(4) > 0 {
		x.fit(r, words, ref)
	}
	at := r.Intn(len(words))
	switch r.Intn(50) {
	case 0:
		words = slices.Delete(words, at, at+1)
	case 1:
		words = slices.Insert(words, at, words[at])
	case 2:
		words[at] = ""
	case 3:
		words = slices.Insert(words, at, "")
	case 4:
		words[at] += strings.Repeat("x", r.Intn(2*api.MaxLine))
	}
	return strings.Join(words, " ")
}

// fit has a select ask for a kind that fits its reference, and, if there is one, for a receiver below the class that it names.
func (x told) fit(r *rand.Rand, words []string, ref api.Ref) {
	words[1] = pick(r, "virtual", "virtual", "special")
	if ref.Iface {
		words[1] = pick(r, "interface", "interface", "special")
	}
	for _, at := range r.Perm(len(x.classes)) {
		if !x.isIface(at) && x.world.Extends(at, x.number(ref.Class)) {
			words[3] = x.classes[at].Name
		}
	}
}

// agree asks both, and holds the answers against each other.
func agree(t *testing.T, l *link.Linker, x told, line string) {
	t.Helper()
	want, err := x.ask(line)
	if got, e := Ask(l, line); !slices.Equal(got, want) || e != err {
		t.Fatalf("Ask(%s) = %s, %d, want %s, %d", show(line), show(got), e, show(want), err)
	}
}

// agreeOnNames holds Name and Find against the second telling.
func agreeOnNames(t *testing.T, w *hier.World, x told) {
	t.Helper()
	for c := -1; c <= len(x.classes); c++ {
		for index := -1; index < 6; index++ {
			want, err := x.name(id(c, index))
			if got, e := Name(w, id(c, index)); got != want || e != err {
				t.Fatalf("Name(%d, %d) = %s, %d, want %s, %d", c, index, got, e, want, err)
			}
		}
	}
	for _, m := range x.all() {
		text, _ := Name(w, m)
		findIs(t, w, text, m)
	}
}

func TestRandomWorlds(t *testing.T) { // P23.1 to P23.3
	for seed := range int64(40) {
		l := linkerOf(t, randomClasses(t, seed, 20)...)
		x, r := newTold(l.World()), rand.New(rand.NewSource(seed))
		agreeOnNames(t, l.World(), x)
		for range 1000 {
			agree(t, l, x, x.randomLine(r))
			text := pick(r, x.randomWord(r, "REF"), x.randomWord(r, "METHOD"))
			want, err := x.find(text)
			if got, e := Find(l.World(), text); got != want || e != err {
				t.Fatalf("Find(%s) = %v, %d, want %v, %d", show(text), got, e, want, err)
			}
		}
	}
}

// TestRandomWorldsHaveAllKinds: without these the random worlds would show little.
func TestRandomWorldsHaveAllKinds(t *testing.T) {
	counts := map[string]int{}
	for seed := range int64(40) {
		x, r := newTold(worldOf(t, randomClasses(t, seed, 20)...)), rand.New(rand.NewSource(seed))
		for range 1000 {
			line := x.randomLine(r)
			command, _, _ := strings.Cut(line, " ")
			lines, e := x.ask(line)
			if e != api.OK {
				counts[fmt.Sprint("refused ", e)]++
				continue
			}
			counts[fmt.Sprint(command, " lines ", min(len(lines), 4))]++
			if len(lines) == 1 {
				counts[command+" "+lines[0]]++
			}
			for _, one := range lines {
				counts[command+" error"] += strings.Count(one, "error")
			}
		}
	}
	for _, kind := range []string{
		"refused 2", "refused 4", "refused 5", "refused 8", "refused 20", "refused 21", "refused 23",
		"select error 2", "select error 20", "select error 21", "select error 22", "select error 23", "select error 24", "select error 35",
		"static error 20", "static error 21", "static error 22", "static error 23", "static error 35",
		"resolve error 20", "resolve error 21", "resolve error 22", "resolve error 23",
		"below yes", "below no", "below error 20", "overrides yes", "overrides no",
		"vtable error 23", "vtable lines 2", "vtable lines 4", "itable error 23", "itable lines 1", "itable lines 4", "itable error",
		"display lines 3", "chain lines 1", "chain lines 2", "chain lines 4", "closure lines 0", "closure lines 1", "closure lines 4", "methods lines 0", "methods lines 1", "methods lines 4",
	} {
		if counts[kind] < 20 {
			t.Errorf("%s: but %d times", kind, counts[kind])
		}
	}
	for _, command := range []string{"select", "static", "resolve"} {
		if n := counts[command+" lines 1"] - counts[command+" error"]; n < 200 {
			t.Errorf("%s answers a method but %d times", command, n)
		}
	}
}

func TestAllLinesOfAWorld(t *testing.T) { // P23.3: of each command all lines that a small world has
	for seed := range int64(4) {
		l := linkerOf(t, randomClasses(t, 100+seed, 11)...)
		x := newTold(l.World())
		var typed, refs, names []string
		for _, c := range x.classes {
			names = append(names, c.Name)
			typed = append(typed, "L"+c.Name+";", "[L"+c.Name+";")
		}
		for _, m := range x.all() {
			refs = append(refs, x.write(m))
		}
		for _, name := range names {
			for _, form := range formsOf()[5:] {
				agree(t, l, x, strings.Replace(form, "CLASS", name, 1))
			}
			for _, text := range refs {
				agree(t, l, x, "static "+text+" from "+name)
				agree(t, l, x, "resolve "+text+" from "+name)
				for _, recv := range append(slices.Clone(names), "[I", "[L"+name+";") {
					for _, kind := range []string{"virtual", "interface", "special"} {
						agree(t, l, x, "select "+kind+" "+text+" "+recv+" from "+name)
					}
				}
			}
		}
		for _, lower := range append(typed, "I", "[I") {
			for _, upper := range append(typed, "I", "[I") {
				agree(t, l, x, "below "+lower+" "+upper)
			}
		}
		for _, lower := range refs {
			for _, upper := range refs {
				agree(t, l, x, "overrides "+lower+" "+upper)
			}
		}
	}
}

func TestFullWorld(t *testing.T) { // P23.1 to P23.3: as many classes as a world takes
	l := linkerOf(t, randomClasses(t, 77, api.MaxClasses)...)
	x, r := newTold(l.World()), rand.New(rand.NewSource(77))
	agreeOnNames(t, l.World(), x)
	nameRefused(t, l.World(), id(api.MaxClasses, 0), api.ErrRange)
	for _, c := range x.classes {
		for _, command := range []string{"chain ", "closure ", "methods "} {
			agree(t, l, x, command+c.Name)
		}
	}
	for range 300 {
		agree(t, l, x, x.randomLine(r))
	}
}

// TestTablesAnswerAsSelect: what stands in a table's line is what a select of its Root says, asked from the Root's class.
func TestTablesAnswerAsSelect(t *testing.T) { // P0.2
	slots, entries := 0, 0
	for seed := range int64(30) {
		l := linkerOf(t, randomClasses(t, 200+seed, 18)...)
		x := newTold(l.World())
		for _, c := range x.classes {
			if c.Flags&api.Interface != 0 {
				continue
			}
			lines, _ := Ask(l, "vtable "+c.Name)
			for _, line := range lines {
				pieces := strings.Split(line, " ")
				if m, _ := x.find(pieces[2]); x.classes[m.Class].Methods[m.Index].Flags&api.AbstractFl != 0 {
					pieces[2] = "error 24"
				}
				says(t, l, "select virtual "+pieces[1]+" "+c.Name+" from "+strings.Split(pieces[1], ".")[0], pieces[2])
				slots++
			}
			lines, _ = Ask(l, "itable "+c.Name)
			for _, line := range lines[1:] {
				root, rest, _ := strings.Cut(line, " ")
				want := regexp.MustCompile(`\A(error )?[^ ]+`).FindString(rest)
				says(t, l, "select interface "+root+" "+c.Name+" from "+strings.Split(root, ":")[0], want)
				entries++
			}
		}
	}
	if slots < 500 || entries < 200 {
		t.Errorf("%d slots, %d entries", slots, entries)
	}
}
