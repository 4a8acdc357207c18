package code

import (
	"fmt"
	"math"
	"math/big"
	"math/rand"
	"regexp"
	"slices"
	"strconv"
	"strings"
	"testing"

	"arbiter/api"
	"arbiter/names"
	"arbiter/types"
)

// row is a row of the document's table for one instruction.
type row struct {
	op   int
	word string
	kind int
}

// The document's table a second time, with the numbers written out.
var table = []row{
	{1, "iconst", 1}, {2, "iload", 2}, {3, "istore", 2}, {4, "aload", 2}, {5, "astore", 2}, {6, "null", 0}, {7, "iadd", 0}, {8, "isub", 0}, {9, "imul", 0}, {10, "idiv", 0},
	{11, "goto", 3}, {12, "ifeq", 3}, {13, "ifne", 3}, {14, "iflt", 3}, {15, "ifcmpeq", 3}, {16, "ifcmplt", 3}, {17, "ifacmpeq", 3}, {18, "ifnull", 3}, {19, "pop", 0}, {20, "dup", 0},
	{21, "swap", 0}, {22, "new", 4}, {23, "newarray", 6}, {24, "multinew", 7}, {25, "arraylength", 0}, {26, "iaload", 0}, {27, "iastore", 0}, {28, "aaload", 0}, {29, "aastore", 0}, {30, "checkcast", 5},
	{31, "instanceof", 5}, {32, "invokevirtual", 8}, {33, "invokeinterface", 8}, {34, "invokespecial", 8}, {35, "invokestatic", 8}, {36, "ireturn", 0}, {37, "areturn", 0}, {38, "return", 0}, {39, "print", 0}, {40, "printclass", 0},
}

// rowOf answers the row of an Op; kind -1, if there is none.
func rowOf(op int) row {
	for _, r := range table {
		if r.op == op {
			return r
		}
	}
	return row{op: op, kind: -1}
}

func noOps() []int {
	none := []int{0, 41, 42, 64, 100, 200, 255, 256, 257, -1, -2, -40, -41, math.MaxInt, math.MinInt, math.MaxInt - 1, math.MinInt + 1, math.MaxInt32, math.MinInt32}
	for shift := 8; shift < 63; shift++ {
		// A number that wrapped round to fewer bits would be an instruction's.
		none = append(none, 1<<shift|api.IConst, -1<<shift|api.IAdd, 1<<shift|api.PrintClass)
	}
	return none
}

func nameOf(size int) string { return strings.Repeat("n", size) }

func dims(n int) string { return strings.Repeat("[", n) }

// descOf is a descriptor of size bytes that answers nothing.
func descOf(size int) string {
	rest := size - len("()V") - api.MaxArgs*len("I")
	var args strings.Builder
	for range api.MaxArgs {
		n := min(rest, api.MaxDims)
		rest -= n
		args.WriteString(dims(n) + "I")
	}
	return "(" + args.String() + ")V"
}

func soundClasses() []string {
	return []string{"A", "p/A", "I", "V", "$a/_1", "Object", nameOf(api.MaxName), "[I", "[[I", "[LA;", "[[Lp/A;", "[LI;", dims(254) + "I", dims(255) + "I", dims(255) + "L" + nameOf(api.MaxName) + ";"}
}

func unsoundClasses() []string {
	return []string{"", "1", "/", "/A", "A/", "p//A", "A.B", "A:B", ".", ":", "LA;", "[", "[A", "[V", "[LA", "[II", "[I[", "[L;", "A ", " A", "A\n", "A(", "(", "<init>", "\x00", "A\xff", "é", nameOf(api.MaxName + 1), "[L" + nameOf(api.MaxName+1) + ";", dims(256) + "I", dims(256) + "X", dims(1999) + "I", dims(2000) + "I", dims(2001), nameOf(2001), nameOf(100000)}
}

func soundNames() []string {
	return []string{"m", "<init>", "_", "$1", "I", "aB9", nameOf(api.MaxName)}
}

func unsoundNames() []string {
	return []string{"", "1", "a/b", "<clinit>", "<init", "init>", "<init> ", " <init>", "<INIT>", "a.b", "a:b", ".", ":", ".m", "m.", "m ", " m", "m(", "(", "()V", "m()V", "\x00", "m\xff", "é", nameOf(api.MaxName + 1), nameOf(100000)}
}

func soundDescs() []string {
	return []string{"()V", "()I", "(I)V", "(I[Lp/A;)[[I", "(LA;LB;)LC;", "(" + strings.Repeat("I", 20) + ")I", "(" + dims(255) + "I)V", "()" + dims(255) + "LA;", descOf(1999), descOf(2000)}
}

func unsoundDescs() []string {
	return []string{"", "V", "I", "()", "(", ")", "(I", "(V)V", "()VV", "()V ", " ()V", "(.)V", "(:)V", "()V.m()V", "()A", "(A)V", "(LA)V", "()V\x00", "()\xff", "((I)V", "(I))V", "(" + strings.Repeat("I", 21) + ")V", "(" + dims(256) + "I)V", "()" + dims(256) + "I", descOf(2001), descOf(2002), strings.Repeat("(", 100000)}
}

func soundRefs() []api.Ref {
	var all []api.Ref
	for _, iface := range []bool{false, true} {
		for _, class := range soundClasses() {
			for _, name := range soundNames() {
				for _, desc := range soundDescs() {
					all = append(all, api.Ref{Iface: iface, Class: class, Name: name, Desc: desc})
				}
			}
		}
	}
	return all
}

// unsoundRefs have one, two or three texts that are not sound.
func unsoundRefs() []api.Ref {
	all := []api.Ref{{}, {Iface: true}, {Class: "A"}, {Name: "m"}, {Desc: "()V"}, {Class: "A", Name: "m"}, {Name: "m", Desc: "()V"}, {Class: "A", Desc: "()V"}}
	for _, iface := range []bool{false, true} {
		for _, class := range unsoundClasses() {
			all = append(all, api.Ref{Iface: iface, Class: class, Name: "m", Desc: "()V"}, api.Ref{Iface: iface, Class: class, Name: "", Desc: "()V"}, api.Ref{Iface: iface, Class: class, Name: "1", Desc: "V"})
		}
		for _, name := range unsoundNames() {
			all = append(all, api.Ref{Iface: iface, Class: "p/A", Name: name, Desc: "(I)V"}, api.Ref{Iface: iface, Class: "[I", Name: name, Desc: ""})
		}
		for _, desc := range unsoundDescs() {
			all = append(all, api.Ref{Iface: iface, Class: "p/A", Name: "m", Desc: desc}, api.Ref{Iface: iface, Class: "[LA;", Name: "<init>", Desc: desc}, api.Ref{Iface: iface, Class: "", Name: "m", Desc: desc})
		}
	}
	return all
}

// refIsSound says RefCheck's promise a second time.
func refIsSound(r api.Ref) bool {
	_, e := types.ParseRef(r.Class)
	_, f := types.ParseDesc(r.Desc)
	return e == api.OK && f == api.OK && names.Member(r.Name)
}

func textOfRef(r api.Ref) string {
	if r.Iface {
		return r.Class + ":" + r.Name + r.Desc
	}
	return r.Class + "." + r.Name + r.Desc
}

var refPattern = regexp.MustCompile(`(?s)\A([^:.(]+)([:.])([^:.(]+)(\([^:.(]*)\z`)

// refByPattern answers what ParseRefText must answer.
func refByPattern(s string) (api.Ref, bool) {
	m := refPattern.FindStringSubmatch(s)
	if m == nil {
		return api.Ref{}, false
	}
	r := api.Ref{Iface: m[2] == ":", Class: m[1], Name: m[3], Desc: m[4]}
	if !refIsSound(r) {
		return api.Ref{}, false
	}
	return r, true
}

// isSound says P4.3 a second time.
func isSound(i api.Inst) bool {
	kind := rowOf(i.Op).kind
	hasN := kind == 1 || kind == 2 || kind == 3 || kind == 7
	hasType := kind >= 4 && kind <= 7
	if kind == -1 || !hasN && i.N != 0 || !hasType && i.Type != "" || kind != 8 && i.Ref != (api.Ref{}) {
		return false
	}
	ref, refErr := types.ParseRef(i.Type)
	plain, plainErr := types.Parse(i.Type)
	switch kind {
	case 1:
		return i.N >= -2147483648 && i.N <= 2147483647
	case 2:
		return i.N >= 0 && i.N <= 39
	case 3:
		return i.N >= 0 && i.N <= 199
	case 4:
		return names.Valid(i.Type)
	case 5:
		return refErr == api.OK
	case 6:
		return plainErr == api.OK && plain.Dims < 255
	case 7:
		return refErr == api.OK && i.N >= 1 && i.N <= ref.Dims
	case 8:
		return refIsSound(i.Ref)
	}
	return true
}

// textOf says Print's promise a second time, of sound instructions.
func textOf(i api.Inst) string {
	r := rowOf(i.Op)
	switch r.kind {
	case 0:
		return r.word
	case 1, 2, 3:
		return r.word + " " + strconv.Itoa(i.N)
	case 4, 5, 6:
		return r.word + " " + i.Type
	case 7:
		return r.word + " " + strconv.Itoa(i.N) + " " + i.Type
	}
	return r.word + " " + textOfRef(i.Ref)
}

var (
	numberPattern = regexp.MustCompile(`\A(0|-?[1-9][0-9]*)\z`)
	linePattern   = regexp.MustCompile(`(?s)\A([a-z]+)( .*)?\z`)
)

// numberByPattern answers an int that no instruction has, if the text is none or has too many digits.
func numberByPattern(s string) int {
	if !numberPattern.MatchString(s) {
		return math.MaxInt
	}
	n, _ := new(big.Int).SetString(s, 10)
	if !n.IsInt64() {
		return math.MaxInt
	}
	return int(n.Int64())
}

// lineByPattern answers what Parse must answer.
func lineByPattern(line string) (api.Inst, bool) {
	m := linePattern.FindStringSubmatch(line)
	if m == nil {
		return api.Inst{}, false
	}
	place := slices.IndexFunc(table, func(r row) bool { return r.word == m[1] })
	if place < 0 || (m[2] == "") != (table[place].kind == 0) {
		return api.Inst{}, false
	}
	i := api.Inst{Op: table[place].op}
	rest := strings.TrimPrefix(m[2], " ")
	switch table[place].kind {
	case 1, 2, 3:
		i.N = numberByPattern(rest)
	case 4, 5, 6:
		i.Type = rest
	case 7:
		cut := strings.SplitN(rest, " ", 2)
		if len(cut) != 2 {
			return api.Inst{}, false
		}
		i.N, i.Type = numberByPattern(cut[0]), cut[1]
	case 8:
		r, found := refByPattern(rest)
		if !found {
			return api.Inst{}, false
		}
		i.Ref = r
	}
	if !isSound(i) {
		return api.Inst{}, false
	}
	return i, true
}

// numbers are both edges of each range, one beyond each, and the edges of int.
func numbers() []int {
	return []int{0, 1, 2, 3, 38, 39, 40, 41, 198, 199, 200, 201, 253, 254, 255, 256, 5, -1, -2, -5, math.MaxInt32 - 1, math.MaxInt32, math.MaxInt32 + 1, math.MinInt32 + 1, math.MinInt32, math.MinInt32 - 1, 1 << 32, 1<<32 + 1, -1 << 32, math.MaxInt, math.MinInt, math.MaxInt - 1, math.MinInt + 1}
}

func typeTexts() []string {
	all := append(soundClasses(), unsoundClasses()...)
	return append(all, "LI;", "Lp/A;", "II", "L;", "L", dims(254)+"LA;", dims(255)+"LA;", dims(256)+"LA;", "L"+nameOf(api.MaxName)+";", "L"+nameOf(api.MaxName+1)+";")
}

func someRefs() []api.Ref {
	return []api.Ref{
		{Class: "A", Name: "m", Desc: "()V"}, {Iface: true, Class: "p/I", Name: "m", Desc: "(I)I"}, {Class: "[I", Name: "id", Desc: "()I"}, {Class: "p/A", Name: "<init>", Desc: "()V"}, {Iface: true, Class: dims(255) + "I", Name: nameOf(60), Desc: descOf(2000)},
		{Iface: true}, {Class: "A"}, {Name: "m"}, {Desc: "()V"}, {Class: "LA;", Name: "m", Desc: "()V"}, {Class: "A", Name: "a/b", Desc: "()V"}, {Class: "A", Name: "m", Desc: "()"}, {Class: "A", Name: "m", Desc: descOf(2001)},
	}
}

// ops are the forty and some that are none.
func ops() []int {
	all := noOps()
	for _, r := range table {
		all = append(all, r.op)
	}
	return all
}

// anyInsts are instructions of each Op with each number, text and reference alone and with some of them together.
func anyInsts() []api.Inst {
	var all []api.Inst
	for _, op := range ops() {
		all = append(all, api.Inst{Op: op})
		for _, n := range numbers() {
			all = append(all, api.Inst{Op: op, N: n}, api.Inst{Op: op, N: n, Ref: api.Ref{Class: "A", Name: "m", Desc: "()V"}})
			for _, text := range []string{"A", "I", "[I", "[[I", "[[[Lp/A;", "LA;", "[", "A ", dims(254) + "I", dims(255) + "I", dims(256) + "I"} {
				all = append(all, api.Inst{Op: op, N: n, Type: text})
			}
		}
		for _, text := range typeTexts() {
			all = append(all, api.Inst{Op: op, Type: text}, api.Inst{Op: op, N: 1, Type: text}, api.Inst{Op: op, N: -1, Type: text}, api.Inst{Op: op, Type: text, Ref: api.Ref{Iface: true}})
		}
		for _, r := range someRefs() {
			all = append(all, api.Inst{Op: op, Ref: r}, api.Inst{Op: op, N: 1, Ref: r}, api.Inst{Op: op, Type: "A", Ref: r}, api.Inst{Op: op, N: 1, Type: "[I", Ref: r})
		}
	}
	return all
}

func soundInsts() []api.Inst {
	return slices.DeleteFunc(anyInsts(), func(i api.Inst) bool { return !isSound(i) })
}

// fewInsts has a few sound instructions of each Op, with short texts.
func fewInsts() []api.Inst {
	var all []api.Inst
	for _, r := range table {
		switch r.kind {
		case 0:
			all = append(all, api.Inst{Op: r.op})
		case 1:
			all = append(all, api.Inst{Op: r.op, N: -50}, api.Inst{Op: r.op, N: math.MaxInt32}, api.Inst{Op: r.op, N: math.MinInt32}, api.Inst{Op: r.op})
		case 2:
			all = append(all, api.Inst{Op: r.op}, api.Inst{Op: r.op, N: 39})
		case 3:
			all = append(all, api.Inst{Op: r.op}, api.Inst{Op: r.op, N: 199})
		case 4:
			all = append(all, api.Inst{Op: r.op, Type: "p/A"}, api.Inst{Op: r.op, Type: "I"})
		case 5:
			all = append(all, api.Inst{Op: r.op, Type: "p/A"}, api.Inst{Op: r.op, Type: "[I"})
		case 6:
			all = append(all, api.Inst{Op: r.op, Type: "I"}, api.Inst{Op: r.op, Type: "Lp/A;"}, api.Inst{Op: r.op, Type: "[I"})
		case 7:
			all = append(all, api.Inst{Op: r.op, N: 2, Type: "[[I"}, api.Inst{Op: r.op, N: 1, Type: "[[LA;"})
		case 8:
			all = append(all, api.Inst{Op: r.op, Ref: api.Ref{Class: "p/A", Name: "m", Desc: "(I)V"}}, api.Inst{Op: r.op, Ref: api.Ref{Iface: true, Class: "[I", Name: "<init>", Desc: "()I"}})
		}
	}
	return all
}

// show cuts long texts.
func show(i api.Inst) string {
	return fmt.Sprintf("{%d %d %.100q %.100v}", i.Op, i.N, i.Type, i.Ref)
}

func TestTheTableHasForty(t *testing.T) {
	if len(table) != 40 {
		t.Fatalf("%d rows", len(table))
	}
	said := map[string]int{}
	for place, r := range table {
		if r.op != place+1 || said[r.word] != 0 {
			t.Errorf("row %d is %v", place, r)
		}
		said[r.word] = r.op
	}
	if len(descOf(1999)) != 1999 || len(descOf(2000)) != 2000 || len(descOf(2001)) != 2001 {
		t.Error("descOf has another size")
	}
}

// Of each list that is called sound or unsound, each element is.
func TestTheListsAreWhatTheySay(t *testing.T) {
	for _, r := range soundRefs() {
		if !refIsSound(r) {
			t.Errorf("%.100v is not sound", r)
		}
	}
	for _, r := range unsoundRefs() {
		if refIsSound(r) {
			t.Errorf("%.100v is sound", r)
		}
	}
	seen := map[int]int{}
	for _, i := range soundInsts() {
		seen[i.Op]++
	}
	for _, i := range fewInsts() {
		if !isSound(i) {
			t.Errorf("%v is not sound", i)
		}
	}
	if len(seen) != 40 {
		t.Errorf("sound instructions of %d kinds", len(seen))
	}
}

// P4.1

func TestWord(t *testing.T) {
	for _, r := range table {
		if word, e := Word(r.op); word != r.word || e != api.OK {
			t.Errorf("Word(%d) = %q, %d; want %q", r.op, word, e, r.word)
		}
	}
	for _, op := range noOps() {
		if word, e := Word(op); word != "" || e != api.ErrArg {
			t.Errorf("Word(%d) = %q, %d", op, word, e)
		}
	}
}

func TestOperand(t *testing.T) {
	for _, r := range table {
		if kind := Operand(r.op); kind != r.kind {
			t.Errorf("Operand(%d) = %d; want %d", r.op, kind, r.kind)
		}
	}
	for _, op := range noOps() {
		if kind := Operand(op); kind != -1 {
			t.Errorf("Operand(%d) = %d", op, kind)
		}
	}
}

func TestWordAndOperandByName(t *testing.T) {
	for op, want := range map[int]row{api.IConst: {0, "iconst", 1}, api.AStore: {0, "astore", 2}, api.IfACmpEq: {0, "ifacmpeq", 3}, api.New: {0, "new", 4}, api.CheckCast: {0, "checkcast", 5}, api.InstanceOf: {0, "instanceof", 5}, api.NewArray: {0, "newarray", 6}, api.MultiNew: {0, "multinew", 7}, api.InvSpecial: {0, "invokespecial", 8}, api.Null: {0, "null", 0}, api.AAStore: {0, "aastore", 0}, api.Return: {0, "return", 0}, api.Print: {0, "print", 0}, api.PrintClass: {0, "printclass", 0}} {
		if word, e := Word(op); word != want.word || e != api.OK || Operand(op) != want.kind {
			t.Errorf("Word(%d) = %q, %d; Operand %d", op, word, e, Operand(op))
		}
	}
}

func TestWordAndOperandOfManyInts(t *testing.T) {
	for op := -2000; op <= 2000; op++ {
		r, wantErr := rowOf(op), api.OK
		if r.kind == -1 {
			wantErr = api.ErrArg
		}
		if word, e := Word(op); word != r.word || e != wantErr || Operand(op) != r.kind {
			t.Errorf("Word(%d) = %q, %d; Operand %d", op, word, e, Operand(op))
		}
	}
}

// P4.2

func TestRefExamples(t *testing.T) {
	for s, r := range map[string]api.Ref{
		"p/A.m(I)V":     {Class: "p/A", Name: "m", Desc: "(I)V"},
		"p/I:m()V":      {Iface: true, Class: "p/I", Name: "m", Desc: "()V"},
		"[I.id()I":      {Class: "[I", Name: "id", Desc: "()I"},
		"[[LA;:id()[I":  {Iface: true, Class: "[[LA;", Name: "id", Desc: "()[I"},
		"p/A.<init>()V": {Class: "p/A", Name: "<init>", Desc: "()V"},
	} {
		if e := RefCheck(r); e != api.OK {
			t.Errorf("RefCheck(%v) = %d", r, e)
		}
		if text, e := RefText(r); text != s || e != api.OK {
			t.Errorf("RefText(%v) = %q, %d", r, text, e)
		}
		if got, e := ParseRefText(s); got != r || e != api.OK {
			t.Errorf("ParseRefText(%q) = %v, %d", s, got, e)
		}
	}
	for _, s := range []string{"p/A.m", "p/A", "p/A.m.n()V", ".m()V", "p/A..m()V"} {
		if got, e := ParseRefText(s); got != (api.Ref{}) || e != api.ErrText {
			t.Errorf("ParseRefText(%q) = %v, %d", s, got, e)
		}
	}
}

func TestSoundRefsToTextAndBack(t *testing.T) {
	texts := map[string]int{}
	refs := soundRefs()
	for _, r := range refs {
		if e := RefCheck(r); e != api.OK {
			t.Errorf("RefCheck(%.100v) = %d", r, e)
		}
		text, e := RefText(r)
		if text != textOfRef(r) || e != api.OK {
			t.Errorf("RefText(%.100v) = %.100q, %d", r, text, e)
		}
		if got, e := ParseRefText(text); got != r || e != api.OK {
			t.Errorf("ParseRefText(%.100q) = %.100v, %d", text, got, e)
		}
		texts[text]++
	}
	if len(texts) != len(refs) {
		t.Errorf("%d references have %d texts", len(refs), len(texts))
	}
}

func TestUnsoundRefs(t *testing.T) {
	for _, r := range unsoundRefs() {
		if e := RefCheck(r); e != api.ErrForm {
			t.Errorf("RefCheck(%.100v) = %d", r, e)
		}
		if text, e := RefText(r); text != "" || e != api.ErrForm {
			t.Errorf("RefText(%.100v) = %.100q, %d", r, text, e)
		}
	}
}

// checkParseRef holds ParseRefText against the pattern, and a text that is taken against its way back.
func checkParseRef(t *testing.T, s string) {
	t.Helper()
	want, found := refByPattern(s)
	wantErr := api.ErrText
	if found {
		wantErr = api.OK
	}
	got, e := ParseRefText(s)
	if got != want || e != wantErr {
		t.Errorf("ParseRefText(%.100q) = %.100v, %d; want %.100v, %d", s, got, e, want, wantErr)
	}
	if back, e := RefText(got); found && (back != s || e != api.OK) {
		t.Errorf("RefText(ParseRefText(%.100q)) = %.100q, %d", s, back, e)
	}
}

func TestParseRefOfTheUnsound(t *testing.T) {
	for _, r := range unsoundRefs() {
		checkParseRef(t, textOfRef(r))
	}
}

func TestParseRefOfWrongTexts(t *testing.T) {
	for _, s := range []string{
		"", ".", ":", "(", "..", "::", ".:", ":.", ".(", "A", "A.", "A:", ".m", "A.m", "A:m", "A.m(", "A.m()", "A.()V", "A:()V", "A()V", "Am()V", ".m()V", ":m()V", "A..m()V", "A::m()V", "A.:m()V", "A:.m()V", "A.m.n()V", "A:m:n()V", "A.m:n()V", "A.m()V.", "A.m().V", "A.m(.)V", "A.m(:)V", "A.m()V:", "A.m()V ", " A.m()V", "A .m()V", "A. m()V", "A.m ()V", "A.m( )V", "A.m()V\n", "A.m()V\x00", "A.m\x00()V", "A\xff.m()V", "A.m()VV", "A.m()V()V", "A.m(()V", "A.m((I)V", "A.m(V)V", "(.m)V", "p/A(.m)V", "p/A().m()V", "LA;.m()V", "[A.m()V", "[.m()V", "I.m()", "A.<init>", "A.<init()V", "A.<clinit>()V", "A.a/b()V", "A,m()V", "A#m()V", "A;m()V", "A\u2024m()V", "A\uff0em()V", "A/.m()V",
		"A.m(" + strings.Repeat("I", 21) + ")V", dims(256) + "I.m()V", "A.m" + descOf(2001), strings.Repeat(".", 100000), strings.Repeat("A", 100000) + ".m()V", "A.m(" + strings.Repeat("I", 100000) + ")V", strings.Repeat("A.m()V", 10000),
	} {
		if got, e := ParseRefText(s); got != (api.Ref{}) || e != api.ErrText {
			t.Errorf("ParseRefText(%.100q) = %.100v, %d", s, got, e)
		}
		checkParseRef(t, s)
	}
}

// neighbours are the texts that differ from s by one byte put in, left out, put twice or put in the place of another.
func neighbours(s, bytes string) []string {
	all := []string{s, s + s, strings.ToUpper(s)}
	for place := range len(s) + 1 {
		head, tail := s[:place], s[place:]
		all = append(all, head, tail)
		for b := range len(bytes) {
			all = append(all, head+bytes[b:b+1]+tail)
			if tail != "" {
				all = append(all, head+bytes[b:b+1]+tail[1:])
			}
		}
		if tail != "" {
			all = append(all, head+tail[1:], head+tail[:1]+tail)
		}
	}
	return all
}

const bytesAround = " \t\n\r\x00\x0b\u00a0\xffAIVLm/_.:;()[<>0159+-e"

func TestParseRefOfNeighbours(t *testing.T) {
	for _, s := range []string{"p/A.m(I)V", "p/I:m()V", "[I.id()I", "[[Lp/A;:<init>(LA;)LA;", "A.m()V"} {
		for _, near := range neighbours(s, bytesAround) {
			checkParseRef(t, near)
		}
	}
}

// randomText is made of pieces, so that a good part of the texts is taken.
func randomText(r *rand.Rand, pieces []string) string {
	var text strings.Builder
	for range r.Intn(9) {
		text.WriteString(pieces[r.Intn(len(pieces))])
	}
	return text.String()
}

func randomBytes(r *rand.Rand) string {
	text := make([]byte, r.Intn(12))
	for place := range text {
		text[place] = byte(r.Intn(256))
	}
	return string(text)
}

func TestParseRefOfAnyText(t *testing.T) {
	r := rand.New(rand.NewSource(4))
	pieces := []string{"A", "p/", ".", ":", "m", "()V", "(", ")", "I", "[", "LA;", "<init>", "(I)", "[I", " ", "\xff", "A.m", "V"}
	for range 200000 {
		checkParseRef(t, randomText(r, pieces))
	}
	for range 20000 {
		checkParseRef(t, randomBytes(r))
	}
}

// P4.3

func TestCheckExamples(t *testing.T) {
	for _, i := range []api.Inst{{Op: api.IConst, N: -5}, {Op: api.IConst}, {Op: api.MultiNew, N: 2, Type: "[[I"}, {Op: api.MultiNew, N: 1, Type: "[[I"}, {Op: api.IAdd}, {Op: api.NewArray, Type: "I"}, {Op: api.New, Type: "I"}, {Op: api.CheckCast, Type: "[I"}, {Op: api.ILoad, N: 39}, {Op: api.Goto, N: 199}, {Op: api.InvVirtual, Ref: api.Ref{Class: "A", Name: "m", Desc: "()V"}}} {
		if e := Check(i); e != api.OK {
			t.Errorf("Check(%v) = %d", i, e)
		}
	}
	for _, i := range []api.Inst{{}, {N: 1}, {Op: 41}, {Op: api.IAdd, N: 1}, {Op: api.IAdd, Type: "I"}, {Op: api.IAdd, Ref: api.Ref{Iface: true}}, {Op: api.New, Type: "[I"}, {Op: api.New}, {Op: api.CheckCast, Type: "LA;"}, {Op: api.NewArray, Type: "A"}, {Op: api.MultiNew, N: 1, Type: "A"}, {Op: api.MultiNew, Type: "A"}, {Op: api.MultiNew, Type: "[I"}, {Op: api.MultiNew, N: 2, Type: "[I"}, {Op: api.InvStatic}} {
		if e := Check(i); e != api.ErrForm {
			t.Errorf("Check(%v) = %d", i, e)
		}
	}
}

func TestCheckAtTheEdgesOfN(t *testing.T) {
	for _, r := range table {
		var least, most int
		i := api.Inst{Op: r.op}
		switch r.kind {
		case 1:
			least, most = -1<<31, 1<<31-1
		case 2:
			most = 39
		case 3:
			most = 199
		case 7:
			least, most, i.Type = 1, 255, dims(255)+"I"
		default:
			continue
		}
		for n, want := range map[int]api.Errno{least - 1: api.ErrForm, least: api.OK, least + 1: api.OK, most - 1: api.OK, most: api.OK, most + 1: api.ErrForm, math.MinInt: api.ErrForm, math.MaxInt: api.ErrForm} {
			i.N = n
			if e := Check(i); e != want {
				t.Errorf("Check(%s with N %d) = %d", r.word, n, e)
			}
		}
	}
}

func TestCheckAtTheEdgesOfDims(t *testing.T) {
	for n := range 300 {
		for _, element := range []string{"I", "LA;"} {
			text := dims(n) + element
			for _, i := range []api.Inst{{Op: api.NewArray, Type: text}, {Op: api.CheckCast, Type: text}, {Op: api.InstanceOf, Type: text}, {Op: api.New, Type: text}, {Op: api.MultiNew, N: n, Type: text}, {Op: api.MultiNew, N: n + 1, Type: text}, {Op: api.MultiNew, N: 1, Type: text}} {
				if e := Check(i); (e == api.OK) != isSound(i) {
					t.Errorf("Check({%d %d of %d dimensions}) = %d", i.Op, i.N, n, e)
				}
			}
		}
	}
	if Check(api.Inst{Op: api.NewArray, Type: dims(254) + "I"}) != api.OK || Check(api.Inst{Op: api.NewArray, Type: dims(255) + "I"}) != api.ErrForm || Check(api.Inst{Op: api.CheckCast, Type: dims(255) + "I"}) != api.OK {
		t.Error("an array of more than MaxDims dimensions, or not of as many")
	}
}

func TestCheckAndPrintOfAnyInst(t *testing.T) {
	for _, i := range anyInsts() {
		want, wantErr := "", api.ErrForm
		if isSound(i) {
			want, wantErr = textOf(i), api.OK
		}
		if e := Check(i); e != wantErr {
			t.Errorf("Check(%s) = %d, want %d", show(i), e, wantErr)
		}
		if text, e := Print(i); text != want || e != wantErr {
			t.Errorf("Print(%s) = %.200q, %d; want %.200q, %d", show(i), text, e, want, wantErr)
		}
	}
}

func TestCheckOfEveryRef(t *testing.T) {
	for _, op := range []int{api.InvVirtual, api.InvInterface, api.InvSpecial, api.InvStatic} {
		for _, r := range soundRefs() {
			if e := Check(api.Inst{Op: op, Ref: r}); e != api.OK {
				t.Errorf("Check(%d %.100v) = %d", op, r, e)
			}
		}
		for _, r := range unsoundRefs() {
			if e := Check(api.Inst{Op: op, Ref: r}); e != api.ErrForm {
				t.Errorf("Check(%d %.100v) = %d", op, r, e)
			}
		}
	}
}

// P4.4

func TestPrintAndParseExamples(t *testing.T) {
	for s, i := range map[string]api.Inst{
		"iconst -5": {Op: api.IConst, N: -5}, "iconst 0": {Op: api.IConst}, "iconst 2147483647": {Op: api.IConst, N: math.MaxInt32}, "iconst -2147483648": {Op: api.IConst, N: math.MinInt32},
		"iload 39": {Op: api.ILoad, N: 39}, "astore 0": {Op: api.AStore}, "goto 199": {Op: api.Goto, N: 199}, "ifnull 0": {Op: api.IfNull}, "iadd": {Op: api.IAdd}, "printclass": {Op: api.PrintClass},
		"new I": {Op: api.New, Type: "I"}, "newarray I": {Op: api.NewArray, Type: "I"}, "newarray LI;": {Op: api.NewArray, Type: "LI;"}, "checkcast I": {Op: api.CheckCast, Type: "I"}, "instanceof [Lp/A;": {Op: api.InstanceOf, Type: "[Lp/A;"}, "multinew 2 [[I": {Op: api.MultiNew, N: 2, Type: "[[I"},
		"invokevirtual p/A.m(I)V": {Op: api.InvVirtual, Ref: api.Ref{Class: "p/A", Name: "m", Desc: "(I)V"}}, "invokeinterface p/I:m()V": {Op: api.InvInterface, Ref: api.Ref{Iface: true, Class: "p/I", Name: "m", Desc: "()V"}}, "invokespecial A.<init>()V": {Op: api.InvSpecial, Ref: api.Ref{Class: "A", Name: "<init>", Desc: "()V"}}, "invokestatic A:m()V": {Op: api.InvStatic, Ref: api.Ref{Iface: true, Class: "A", Name: "m", Desc: "()V"}},
	} {
		if text, e := Print(i); text != s || e != api.OK {
			t.Errorf("Print(%v) = %q, %d", i, text, e)
		}
		if got, e := Parse(s); got != i || e != api.OK {
			t.Errorf("Parse(%q) = %v, %d", s, got, e)
		}
	}
}

func TestSoundInstsToTextAndBack(t *testing.T) {
	for _, i := range soundInsts() {
		text, e := Print(i)
		if text != textOf(i) || e != api.OK {
			t.Errorf("Print(%s) = %.200q, %d", show(i), text, e)
		}
		if got, e := Parse(text); got != i || e != api.OK {
			t.Errorf("Parse(%.200q) = %s, %d", text, show(got), e)
		}
	}
}

// checkParse holds Parse against the patterns, and a line that is taken against its way back.
func checkParse(t *testing.T, line string) {
	t.Helper()
	want, found := lineByPattern(line)
	wantErr := api.ErrText
	if found {
		wantErr = api.OK
	}
	got, e := Parse(line)
	if got != want || e != wantErr {
		t.Errorf("Parse(%.100q) = %s, %d; want %s, %d", line, show(got), e, show(want), wantErr)
	}
	if back, e := Print(got); found && (back != line || e != api.OK) {
		t.Errorf("Print(Parse(%.100q)) = %.100q, %d", line, back, e)
	}
}

func refused(t *testing.T, line string) {
	t.Helper()
	if got, e := Parse(line); got != (api.Inst{}) || e != api.ErrText {
		t.Errorf("Parse(%.100q) = %s, %d", line, show(got), e)
	}
}

func TestParseOfWrongLines(t *testing.T) {
	for _, line := range []string{
		"iconst 05", "iconst +5", "iconst -0", "iconst", "iadd ", " iadd", "iconst 2147483648", "iload 40", "multinew 0 [I", "multinew 2 [I", "nop", "",
		" ", "  ", "\n", "0", "5", "-", "iconst ", "iconst -", "iconst +", "iconst +0", "iconst --5", "iconst -05", "iconst 007", "iconst 00", "iconst -2147483649", "iconst 9223372036854775807", "iconst 9223372036854775808", "iconst -9223372036854775809", "iconst 18446744073709551616", "iconst 4294967296", "iconst 4294967301", "iconst 1_0", "iconst 0x5", "iconst 0b1", "iconst 0o7", "iconst 5.", "iconst 5.0", "iconst 5e0", "iconst 1e3", "iconst a", "iconst \u0665", "iconst 5 ", "iconst  5", "iconst 5 5", "iconst\t5", "iconst\u00a05", "iconst5", "iconst 5\n", "iconst 5\r", "iconst 5\x00", "iconst - 5", "iconst 5;", "iconst I",
		"Iconst 5", "ICONST 5", "IADD", "iAdd", "iad", "i", "iaddd", "iadd iadd", "iadd 0", "iadd 1", "iadd I", "iadd\n", "iadd\x00", "\x00iadd", "print class", "printclas", "printclass ", "print ", "print A", "return 0", "null null", "isubb", "dup dup", "dup2",
		"iload", "iload ", "iload -1", "iload 00", "iload +0", "iload A", "istore 40", "aload 40", "astore 200", "iload 4294967296", "goto", "goto -1", "goto 200", "goto 0199", "goto A", "ifeq 200", "ifnull", "ifacmpeq 1 1", "ifeq1",
		"new", "new ", "new [I", "new LA;", "new A ", "new  A", "new A B", "new 1", "new p.A", "new A\n", "checkcast", "checkcast ", "checkcast LA;", "checkcast [A", "checkcast [", "checkcast A [I", "instanceof", "instanceof [V", "newarray", "newarray ", "newarray A", "newarray V", "newarray II", "newarray [", "newarray L;", "newarray 5 I",
		"multinew", "multinew ", "multinew 1", "multinew 1 ", "multinew [I", "multinew [I 1", "multinew  1 [I", "multinew 1  [I", "multinew 1 [I ", "multinew 1 A", "multinew 1 I", "multinew 0 A", "multinew -1 [I", "multinew 01 [I", "multinew +1 [I", "multinew -0 [I", "multinew 256 " + dims(255) + "I", "multinew 1[I", "multinew 1 1 [I", "multinew A [I", "multinew 1 [I [I", "multinew 4294967297 [I",
		"invokevirtual", "invokevirtual ", "invokevirtual A", "invokevirtual A.m", "invokevirtual A.m()", "invokevirtual A..m()V", "invokevirtual A.m.n()V", "invokevirtual Am()V", "invokevirtual A.m()V ", "invokevirtual  A.m()V", "invokevirtual A.m ()V", "invokevirtual A.m() V", "invokevirtual A .m()V", "invokevirtual 1 A.m()V", "invokestatic A.m()V A.m()V", "invokespecial A.<clinit>()V", "invokeinterface A:()V", "invoke A.m()V", "invokedynamic A.m()V", "invokevirtualA.m()V",
		"newarray " + dims(255) + "I", "newarray " + dims(256) + "I", "checkcast " + dims(256) + "I", "new " + nameOf(61), "iconst " + strings.Repeat("9", 1000), "iconst -" + strings.Repeat("9", 1000), "iconst " + strings.Repeat("0", 100000), "iconst " + strings.Repeat(" ", 1000), strings.Repeat(" ", 100000), strings.Repeat("iadd ", 10000), strings.Repeat("x", 100000), "new " + nameOf(100000), "invokestatic A.m" + descOf(2001), "\xff", "iadd\xff", "new \xff", "é",
	} {
		refused(t, line)
		checkParse(t, line)
	}
}

func TestParseOfAWordWithEachOperand(t *testing.T) {
	operands := []string{"", " ", " 0", " 1", " -1", " 39", " 40", " 199", " 200", " A", " I", " [I", " LA;", " [[I", " 1 [I", " 2 [[I", " 1 A", " 0 [I", " A.m()V", " A:m()V", " 0 A.m()V", "0", "A", "\tA", " 0 0"}
	for _, r := range table {
		for _, operand := range operands {
			checkParse(t, r.word+operand)
			refused(t, " "+r.word+operand)
			refused(t, strings.ToUpper(r.word)+operand)
			checkParse(t, r.word+"x"+operand)
			refused(t, r.word+operand+" ")
			for cut := range r.word {
				checkParse(t, r.word[:cut]+operand)
			}
		}
	}
}

func TestParseOfNeighbours(t *testing.T) {
	for _, i := range fewInsts() {
		for _, near := range neighbours(textOf(i), bytesAround) {
			checkParse(t, near)
		}
	}
}

func TestParseOfEveryNumber(t *testing.T) {
	for n := -700; n <= 700; n++ {
		for _, r := range table {
			checkParse(t, r.word+" "+strconv.Itoa(n))
		}
		checkParse(t, "multinew "+strconv.Itoa(n)+" "+dims(255)+"I")
		checkParse(t, "multinew "+strconv.Itoa(n)+" "+dims(3)+"LA;")
		checkParse(t, "iconst "+strconv.Itoa(math.MaxInt32+n))
		checkParse(t, "iconst "+strconv.Itoa(math.MinInt32+n))
		checkParse(t, "iconst "+strconv.FormatUint(math.MaxUint64-uint64(n+700), 10))
	}
}

func TestParseOfAnyText(t *testing.T) {
	r := rand.New(rand.NewSource(5))
	pieces := []string{" ", " ", " ", "0", "1", "-", "9", "A", "[I", "[", "LA;", "I", "A.m()V", "A", ".", ":", "m", "()V", "\n", "\xff", "+"}
	for _, x := range table {
		pieces = append(pieces, x.word)
	}
	for range 100000 {
		checkParse(t, randomText(r, pieces))
		checkParse(t, table[r.Intn(len(table))].word+" "+randomText(r, pieces))
	}
	for range 20000 {
		checkParse(t, randomBytes(r))
		checkParse(t, table[r.Intn(len(table))].word+randomBytes(r))
	}
}

// P4.5

func TestCheckAllExamples(t *testing.T) {
	for _, c := range []struct {
		code   []api.Inst
		locals int
		want   api.Errno
	}{
		{[]api.Inst{{Op: api.IConst, N: 1}, {Op: api.IReturn}}, 0, api.OK},
		{[]api.Inst{{Op: api.ILoad}}, 0, api.ErrForm},
		{[]api.Inst{{Op: api.ILoad}}, 1, api.OK},
		{[]api.Inst{{Op: api.Goto, N: 1}}, 0, api.ErrForm},
		{nil, 0, api.ErrForm}, {[]api.Inst{}, 0, api.ErrForm}, {nil, 40, api.ErrForm}, {nil, -1, api.ErrForm},
		{[]api.Inst{{Op: api.Goto}}, -1, api.OK},
		{[]api.Inst{{}}, 1, api.ErrForm},
	} {
		if e := CheckAll(c.code, c.locals); e != c.want {
			t.Errorf("CheckAll(%v, %d) = %d", c.code, c.locals, e)
		}
	}
}

// many is as many instructions without an operand.
func many(size int) []api.Inst {
	return slices.Repeat([]api.Inst{{Op: api.Return}}, size)
}

func TestCheckAllOfEachLength(t *testing.T) {
	for size := range 450 {
		want := api.ErrForm
		if size >= 1 && size <= 200 {
			want = api.OK
		}
		if e := CheckAll(many(size), 0); e != want {
			t.Errorf("CheckAll of %d instructions = %d", size, e)
		}
	}
	if e := CheckAll(many(100000), 0); e != api.ErrForm {
		t.Errorf("CheckAll of many instructions = %d", e)
	}
}

func TestCheckAllOfOneInstruction(t *testing.T) {
	for _, i := range anyInsts() {
		want := api.ErrForm
		if kind := rowOf(i.Op).kind; isSound(i) && (kind != 3 || i.N == 0) {
			want = api.OK
		}
		if e := CheckAll([]api.Inst{i}, api.MaxLocals); e != want {
			t.Errorf("CheckAll(%s) = %d, want %d", show(i), e, want)
		}
	}
}

func TestCheckAllOfOneUnsoundAmongSound(t *testing.T) {
	for _, bad := range []api.Inst{{}, {Op: 41}, {Op: -1}, {Op: api.IAdd, N: 1}, {Op: api.ILoad, N: -1}, {Op: api.ILoad, N: 40}, {Op: api.Goto, N: -1}, {Op: api.New}, {Op: api.InvStatic}, {Op: api.Return, Ref: api.Ref{Iface: true}}, {Op: api.IConst, N: 1 << 31}} {
		for _, size := range []int{1, 2, 3, 199, 200} {
			for _, place := range []int{0, 1, size / 2, size - 1} {
				code := many(size)
				code[min(place, size-1)] = bad
				if e := CheckAll(code, api.MaxLocals); e != api.ErrForm {
					t.Errorf("CheckAll with %v at %d of %d = %d", bad, place, size, e)
				}
			}
		}
	}
}

func TestCheckAllOfLocals(t *testing.T) {
	counts := []int{math.MinInt, -41, -1, 0, 1, 2, 39, 40, 41, 200, math.MaxInt32, math.MaxInt}
	for _, r := range table {
		if r.kind != 2 {
			continue
		}
		for n := -1; n <= 41; n++ {
			for _, locals := range counts {
				want := api.ErrForm
				if n >= 0 && n < 40 && n < locals {
					want = api.OK
				}
				code := []api.Inst{{Op: api.Return}, {Op: r.op, N: n}, {Op: api.Return}}
				if e := CheckAll(code, locals); e != want {
					t.Errorf("CheckAll of %s %d with %d locals = %d", r.word, n, locals, e)
				}
			}
		}
	}
	// Numbers of instructions and ints are no locals.
	for _, locals := range counts {
		code := []api.Inst{{Op: api.IConst, N: 500}, {Op: api.Goto, N: 2}, {Op: api.MultiNew, N: 2, Type: "[[I"}}
		if e := CheckAll(code, locals); e != api.OK {
			t.Errorf("CheckAll without locals, of %d, = %d", locals, e)
		}
	}
}

func TestCheckAllOfTargets(t *testing.T) {
	for _, r := range table {
		if r.kind != 3 {
			continue
		}
		for _, size := range []int{1, 2, 3, 40, 41, 199, 200, 201} {
			for _, n := range []int{-1, 0, 1, size - 2, size - 1, size, size + 1, 198, 199, 200, 201} {
				want := api.ErrForm
				if n >= 0 && n < size && size <= 200 {
					want = api.OK
				}
				code := many(size)
				code[size/2] = api.Inst{Op: r.op, N: n}
				if e := CheckAll(code, 0); e != want {
					t.Errorf("CheckAll of %s %d among %d = %d", r.word, n, size, e)
				}
			}
		}
	}
}

func TestCheckAllLeavesTheList(t *testing.T) {
	code := fewInsts()[:30:30]
	kept := slices.Clone(code)
	for _, locals := range []int{-1, 0, 40} {
		CheckAll(code, locals)
	}
	if !slices.Equal(code, kept) {
		t.Error("CheckAll changed the list")
	}
	// Behind the length stands what would be refused, and a target that only the capacity would reach.
	long := []api.Inst{{Op: api.Goto, N: 1}, {Op: api.Return}, {Op: 99}, {Op: api.ILoad, N: -7}}
	all := slices.Clone(long)
	if e := CheckAll(long[:2], 0); e != api.OK {
		t.Errorf("CheckAll read behind the length: %d", e)
	}
	if e := CheckAll(long[:1], 0); e != api.ErrForm {
		t.Errorf("CheckAll counted behind the length: %d", e)
	}
	if !slices.Equal(long, all) {
		t.Error("CheckAll wrote behind the length")
	}
}

// R8

func TestSameAnswerEachTime(t *testing.T) {
	for _, i := range fewInsts() {
		first, _ := Print(i)
		got, _ := Parse(first)
		again, _ := Print(i)
		back, _ := Parse(again)
		if first != again || got != back {
			t.Errorf("%v is answered in two ways", i)
		}
	}
}
