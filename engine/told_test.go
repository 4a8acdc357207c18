package engine

import (
	"fmt"
	"slices"
	"strings"

	"arbiter/api"
	"arbiter/arrays"
	"arbiter/choose"
	"arbiter/code"
	"arbiter/hier"
	"arbiter/resolve"
	"arbiter/types"
)

// told is the chapter told a second time. A method that is invoked is a call of a function within that of its invoker, errors go up as answers, ints are int32 and references are pointers; what an instruction takes stands in a table, by words; and who runs is asked of the definition, each time anew.
type told struct {
	world  *hier.World
	counts [4]int
	seen   map[met]int // what instructions have come to
}

// met is the word of an instruction, which is empty where there is none to be done, and the error, or OK.
type met struct {
	word string
	e    api.Errno
}

func newTold(w *hier.World) *told {
	return &told{world: w, seen: map[met]int{}}
}

// thing is an object or an array. Its elements are int32 or *thing.
type thing struct {
	number   int
	kind     api.Type
	elements []any
}

// nothing is null.
var nothing *thing

// running is one run of the second telling.
type running struct {
	*told
	things      []*thing
	out         string
	fuel, spent int
	words       int // of all frames
	ended       bool
}

func (x *told) run(main api.Ref, args []int, fuel int) (api.Result, api.Errno) {
	if code.RefCheck(main) != api.OK {
		return api.Result{}, api.ErrForm
	}
	if !strings.HasPrefix(main.Desc, "("+strings.Repeat("I", len(args))+")") {
		return api.Result{}, api.ErrArg
	}
	var locals []any
	for _, n := range args {
		if int(int32(n)) != n {
			return api.Result{}, api.ErrArg
		}
		locals = append(locals, int32(n))
	}
	r := &running{told: x, fuel: fuel}
	if fuel < 0 {
		r.fuel = 0
	} else if fuel > 100000 {
		r.fuel = 100000
	}
	v, e := r.main(main, locals)
	return r.result(v, e), api.OK
}

func (r *running) main(main api.Ref, locals []any) (any, api.Errno) {
	d := 0
	if id, e := r.world.ByName(main.Class); e == api.OK {
		d = id
	}
	m, e := choose.Call(r.world, d, api.StaticInv, main, api.Type{})
	if e != api.OK {
		return nil, e
	}
	return r.call(m, locals, func() {})
}

// result is that of a value, which is nil if there is none, or of an error.
func (r *running) result(v any, e api.Errno) api.Result {
	out := api.Result{Out: r.out, Thrown: e, Spent: r.spent}
	if e != api.OK {
		return out
	}
	switch x := v.(type) {
	case int32:
		out.Has, out.Value = true, api.Value{N: int(x)}
	case *thing:
		out.Has, out.Value = true, api.Value{Ref: true}
		if x != nil {
			out.Value.N = x.number
		}
	}
	return out
}

// call runs a method to its end. It says when the method was entered.
func (r *running) call(m api.MethodID, first []any, entered func()) (any, api.Errno) {
	method, _ := r.world.Method(m)
	size := method.Locals + method.Stack + 3
	if r.words+size > 4000 {
		return nil, api.StackOverflow
	}
	r.words += size
	defer func() { r.words -= size }()
	entered()
	f := &activation{running: r, class: m.Class, method: method, locals: slices.Repeat([]any{int32(0)}, method.Locals)}
	copy(f.locals, first)
	for !f.over {
		if f.next == len(method.Code) {
			return nil, r.meets("", api.Malformed)
		}
		if r.spent == r.fuel {
			return nil, r.meets("", api.FuelSpent)
		}
		r.spent++
		i := method.Code[f.next]
		w, _ := code.Word(i.Op)
		if e := r.meets(w, f.do(w, i)); e != api.OK {
			return nil, e
		}
	}
	return f.answer, api.OK
}

// meets counts an error once, however many invocations it ends.
func (r *running) meets(w string, e api.Errno) api.Errno {
	if !r.ended {
		r.seen[met{w, e}]++
	}
	r.ended = r.ended || e != api.OK
	return e
}

// activation is a method that runs.
type activation struct {
	*running
	class    int
	method   api.Method
	locals   []any
	operands []any
	next     int
	over     bool
	answer   any
}

// takes tells what an instruction takes, the last operand first: i is an int, a a reference, v any value.
func takes(w string, i api.Inst) string {
	switch w {
	case "istore", "ifeq", "ifne", "iflt", "newarray", "print", "ireturn":
		return "i"
	case "astore", "ifnull", "arraylength", "checkcast", "instanceof", "printclass", "areturn":
		return "a"
	case "iadd", "isub", "imul", "idiv", "ifcmpeq", "ifcmplt":
		return "ii"
	case "ifacmpeq":
		return "aa"
	case "pop", "dup":
		return "v"
	case "swap":
		return "vv"
	case "multinew":
		return strings.Repeat("i", i.N)
	case "iaload", "aaload":
		return "ia"
	case "iastore":
		return "iia"
	case "aastore":
		return "aia"
	case "invokestatic":
		return takesArgs(i.Ref.Desc)
	case "invokevirtual", "invokeinterface", "invokespecial":
		return takesArgs(i.Ref.Desc) + "a"
	}
	return ""
}

func takesArgs(desc string) string {
	d, _ := types.ParseDesc(desc)
	out := ""
	for _, arg := range d.Args {
		if arg == (api.Type{}) {
			out = "i" + out
		} else {
			out = "a" + out
		}
	}
	return out
}

// do takes what the instruction takes, does it, and puts what it puts.
func (f *activation) do(w string, i api.Inst) api.Errno {
	var took []any
	for _, kind := range takes(w, i) {
		last := len(f.operands) - 1
		if last < 0 || !isOf(f.operands[last], kind) {
			return api.Malformed
		}
		took, f.operands = append(took, f.operands[last]), f.operands[:last]
	}
	f.next++
	put, e := f.done(w, i, took)
	if e != api.OK {
		return e
	}
	if len(f.operands)+len(put) > f.method.Stack {
		return api.Malformed
	}
	f.operands = append(f.operands, put...)
	return api.OK
}

func isOf(v any, kind rune) bool {
	_, isInt := v.(int32)
	return kind == 'v' || isInt == (kind == 'i')
}

// done tells what an instruction puts.
func (f *activation) done(w string, i api.Inst, took []any) ([]any, api.Errno) {
	switch w {
	case "iconst":
		return []any{int32(i.N)}, api.OK
	case "null":
		return []any{nothing}, api.OK
	case "iload", "aload":
		if !isOf(f.locals[i.N], rune(w[0])) {
			return nil, api.Malformed
		}
		return []any{f.locals[i.N]}, api.OK
	case "istore", "astore":
		f.locals[i.N] = took[0]
		return nil, api.OK
	case "pop":
		return nil, api.OK
	case "dup":
		return []any{took[0], took[0]}, api.OK
	case "swap":
		return []any{took[0], took[1]}, api.OK
	case "print", "printclass":
		return nil, f.written(took[0])
	case "iadd", "isub", "imul", "idiv":
		return sum(w, took[1].(int32), took[0].(int32))
	case "ireturn", "areturn", "return":
		return nil, f.returned(took)
	case "new", "newarray", "multinew":
		return f.made(w, i, took)
	case "checkcast", "instanceof":
		return f.cast(w, i, took[0].(*thing))
	}
	switch {
	case strings.HasPrefix(w, "if") || w == "goto":
		if jumps(w, took) {
			f.next = i.N
		}
		return nil, api.OK
	case strings.HasPrefix(w, "invoke"):
		return f.invoked(w, i.Ref, took)
	}
	return f.ofArray(w, took)
}

func sum(w string, a, b int32) ([]any, api.Errno) {
	switch w {
	case "iadd":
		return []any{a + b}, api.OK
	case "isub":
		return []any{a - b}, api.OK
	case "imul":
		return []any{a * b}, api.OK
	}
	if b == 0 {
		return nil, api.Arithmetic
	}
	return []any{a / b}, api.OK
}

func jumps(w string, took []any) bool {
	switch w {
	case "ifeq":
		return took[0] == int32(0)
	case "ifne":
		return took[0] != int32(0)
	case "iflt":
		return took[0].(int32) < 0
	case "ifcmplt":
		return took[1].(int32) < took[0].(int32)
	case "ifcmpeq", "ifacmpeq":
		return took[0] == took[1]
	case "ifnull":
		return took[0] == nothing
	}
	return true
}

func (f *activation) written(v any) api.Errno {
	text := ""
	switch x := v.(type) {
	case int32:
		text = fmt.Sprintln(x)
	case *thing:
		if x == nil {
			return api.NullPointer
		}
		text, _ = types.RefText(x.kind)
		text += "\n"
	}
	if len(f.out+text) > 4096 {
		return api.OutFull
	}
	f.out += text
	return api.OK
}

// make makes an array or an object, if there is room for so many, and for their elements.
func (r *running) make(kind api.Type, elements int) *thing {
	var zero any = nothing
	if kind == (api.Type{Dims: 1}) {
		zero = int32(0)
	}
	made := &thing{number: len(r.things) + 1, kind: kind, elements: slices.Repeat([]any{zero}, elements)}
	r.things = append(r.things, made)
	return made
}

func (r *running) hasRoom(things, elements int) bool {
	for _, x := range r.things {
		elements += len(x.elements)
	}
	return len(r.things)+things <= 1000 && elements <= 20000
}

func (f *activation) made(w string, i api.Inst, took []any) ([]any, api.Errno) {
	text := i.Type
	if w == "newarray" {
		text = "[" + text
	}
	t, e := resolve.Class(f.world, f.class, text)
	if e != api.OK {
		return nil, e
	}
	if w == "new" {
		id, _ := f.world.ByName(t.Name)
		c, _ := f.world.Class(id)
		switch {
		case c.Flags&(api.Interface|api.AbstractFl) > 0:
			return nil, api.Instantiation
		case !f.hasRoom(1, 0):
			return nil, api.OutOfMemory
		}
		return []any{f.make(t, 0)}, api.OK
	}
	var counts []int
	for _, n := range slices.Backward(took) {
		counts = append(counts, int(n.(int32)))
	}
	if slices.Min(counts) < 0 {
		return nil, api.NegativeSize
	}
	// One array, for each of its elements one, and so on. What is far too much is not counted any further.
	arrays, elements := 0, 0
	for at, product := 0, 1; at < len(counts) && arrays+elements < 1<<20; at++ {
		arrays += product
		product *= counts[at]
		elements += product
	}
	if !f.hasRoom(arrays, elements) {
		return nil, api.OutOfMemory
	}
	return []any{f.nested(t, counts)}, api.OK
}

func (r *running) nested(kind api.Type, counts []int) *thing {
	made := r.make(kind, counts[0])
	if len(counts) > 1 {
		for at := range made.elements {
			made.elements[at] = r.nested(api.Type{Dims: kind.Dims - 1, Name: kind.Name}, counts[1:])
		}
	}
	return made
}

// isBelow is false of a type that is not loaded.
func (r *running) isBelow(x *thing, t api.Type) bool {
	below, e := arrays.Sub(r.world, x.kind, t)
	return e == api.OK && below
}

func (f *activation) cast(w string, i api.Inst, x *thing) ([]any, api.Errno) {
	below := false
	if x != nil {
		t, e := resolve.Class(f.world, f.class, i.Type)
		if e != api.OK {
			return nil, e
		}
		below = f.isBelow(x, t)
	}
	switch {
	case w == "instanceof" && below:
		return []any{int32(1)}, api.OK
	case w == "instanceof":
		return []any{int32(0)}, api.OK
	case x != nil && !below:
		return nil, api.ClassCast
	}
	return []any{x}, api.OK
}

// ofArray does what asks an array, which was taken last.
func (f *activation) ofArray(w string, took []any) ([]any, api.Errno) {
	x := took[len(took)-1].(*thing)
	if x == nil {
		return nil, api.NullPointer
	}
	isOverInt := x.kind == api.Type{Dims: 1}
	if x.kind.Dims < 1 || w[:2] == "ia" && !isOverInt || w[:2] == "aa" && isOverInt {
		return nil, api.Malformed
	}
	if w == "arraylength" {
		return []any{int32(len(x.elements))}, api.OK
	}
	at := took[len(took)-2].(int32)
	if at < 0 || int(at) >= len(x.elements) {
		return nil, api.IndexBounds
	}
	if w == "iaload" || w == "aaload" {
		return x.elements[at : at+1], api.OK
	}
	if v, isRef := took[0].(*thing); isRef && v != nil && !f.isBelow(v, api.Type{Dims: x.kind.Dims - 1, Name: x.kind.Name}) {
		return nil, api.ArrayStore
	}
	x.elements[at] = took[0]
	return nil, api.OK
}

// linkError is what an invocation meets ahead of its receiver.
func (f *activation) linkError(kind int, r api.Ref) api.Errno {
	if kind == api.Virtual && r.Iface || kind == api.Iface && !r.Iface || kind != api.Special && r.Name == "<init>" {
		return api.Malformed
	}
	id, e := resolve.Method(f.world, f.class, r)
	if e != api.OK {
		return e
	}
	m, _ := f.world.Method(id)
	isStatic, isPrivate := m.Flags&api.Static != 0, m.Flags&api.Private != 0
	if isStatic != (kind == api.StaticInv) || isPrivate && kind == api.Iface {
		return api.Incompatible
	}
	return api.OK
}

func (f *activation) invoked(w string, r api.Ref, took []any) ([]any, api.Errno) {
	kind := map[string]int{"invokevirtual": 1, "invokeinterface": 2, "invokespecial": 3, "invokestatic": 4}[w]
	if e := f.linkError(kind, r); e != api.OK {
		return nil, e
	}
	var recv api.Type
	if kind != api.StaticInv {
		this := took[len(took)-1].(*thing)
		if this == nil {
			return nil, api.NullPointer
		}
		recv = this.kind
	}
	m, e := choose.Call(f.world, f.class, kind, r, recv)
	if e != api.OK {
		return nil, e
	}
	desc, _ := types.ParseDesc(r.Desc)
	for at, t := range desc.Args {
		if x, isRef := took[len(desc.Args)-1-at].(*thing); isRef && x != nil && !f.isBelow(x, t) {
			return nil, api.Malformed
		}
	}
	slices.Reverse(took)
	v, e := f.call(m, took, func() { f.counts[kind-1]++ })
	if e != api.OK || v == nil {
		return nil, e
	}
	return []any{v}, api.OK
}

// returned keeps the answer, which is nil if there is none.
func (f *activation) returned(took []any) api.Errno {
	desc, _ := types.ParseDesc(f.method.Desc)
	f.over = true
	switch {
	case len(took) == 0:
		if !desc.Void {
			return api.Malformed
		}
		return api.OK
	case desc.Void || isOf(took[0], 'i') != (desc.Ret == api.Type{}):
		return api.Malformed
	}
	if x, isRef := took[0].(*thing); isRef && x != nil && !f.isBelow(x, desc.Ret) {
		return api.Malformed
	}
	f.answer = took[0]
	return api.OK
}
