package engine

import (
	"fmt"
	"math/rand"
	"slices"
	"strings"
	"testing"

	"arbiter/api"
	"arbiter/arrays"
	"arbiter/code"
	"arbiter/hier"
	"arbiter/resolve"
	"arbiter/types"
)

func pick[T any](r *rand.Rand, from ...T) T {
	return from[r.Intn(len(from))]
}

// plan is the classes of a random world, with the methods that they have; full is a world of all of them, in which the methods do nothing yet.
type plan struct {
	*rand.Rand
	names   []string
	methods []string // the signatures that methods of several classes have
	full    *hier.World
	all     []api.Class              // those of full
	objects map[api.Type][2][]string // what was found below a type: classes of which there are objects, and all
}

func newPlan(r *rand.Rand, count int) *plan {
	p := &plan{Rand: r, names: []string{"Object", "Cloneable", "Serializable"}, full: hier.New(), objects: map[api.Type][2][]string{}}
	for n := range count {
		p.names = append(p.names, fmt.Sprint(pick(r, "", "", "", "", "p/"), "C", n))
	}
	for n := range 7 {
		p.methods = append(p.methods, fmt.Sprint(pick(r, "m", "m", "m", "s"), n)+p.desc())
	}
	p.methods = append(p.methods, "id()I", "kin()LObject;", "<init>()V")
	for _, name := range p.names[3:] {
		for {
			if _, e := p.full.Define(p.class(name)); e == api.OK {
				break
			}
		}
	}
	for id := range p.full.Len() {
		c, _ := p.full.Class(id)
		p.all = append(p.all, c)
	}
	return p
}

// typ is mostly one over a class of the plan.
func (p *plan) typ() api.Type {
	if p.Intn(150) == 0 {
		return api.Type{Dims: p.Intn(3), Name: "no/Such"}
	}
	return api.Type{Dims: pick(p.Rand, 0, 0, 0, 1, 2), Name: pick(p.Rand, "", "", "Object", pick(p.Rand, p.names...), pick(p.Rand, p.names...))}
}

func (p *plan) desc() string {
	d := api.Desc{Void: p.Intn(4) == 0}
	for range pick(p.Rand, 0, 0, 1, 1, 2, 3) {
		d.Args = append(d.Args, p.typ())
	}
	if !d.Void {
		d.Ret = p.typ()
	}
	text, _ := types.DescText(d)
	return text
}

// class draws one over those that are there; its methods have no code of their own yet.
func (p *plan) class(name string) api.Class {
	c := api.Class{Name: name, Super: "Object", Flags: api.Public | api.Super}
	isIface := p.Intn(4) == 0
	if isIface {
		c.Flags = api.Public | api.Interface | api.AbstractFl
	} else {
		c.Flags &^= pick(p.Rand, 0, 0, 0, 0, 0, 0, 0, 0, api.Super, api.Public, api.Public)
		c.Flags |= pick(p.Rand, 0, 0, 0, 0, 0, api.AbstractFl)
	}
	for range 1 + p.Intn(7) {
		above, _ := p.full.Class(p.Intn(p.full.Len()))
		switch {
		case above.Flags&api.Interface == 0 && !isIface:
			c.Super = above.Name
		case above.Flags&api.Interface != 0 && !slices.Contains(c.Ifaces, above.Name):
			c.Ifaces = append(c.Ifaces, above.Name)
		}
	}
	for _, text := range p.methods {
		if p.Intn(2) == 0 {
			c.Methods = append(c.Methods, p.method(text, isIface))
		}
	}
	for n := range 2 {
		c.Methods = append(c.Methods, p.method(fmt.Sprint("main", n, pick(p.Rand, "()V", "()I", "(I)I", "(II)LObject;", "(III)I")), isIface))
	}
	c.Methods = slices.DeleteFunc(c.Methods, func(m api.Method) bool { return isIface && m.Name == "<init>" })
	return c
}

func (p *plan) method(text string, inIface bool) api.Method {
	flags := pick(p.Rand, normal, normal, normal, normal, normal, api.Protected, 0, api.Private)
	if inIface {
		flags = pick(p.Rand, normal, normal, normal, normal, normal, api.Private)
	}
	isStatic := text[0] == 's' || text[:2] == "ma"
	switch {
	case text[0] == '<':
	case isStatic != (p.Intn(60) == 0):
		flags |= api.Static
	case flags != api.Private && p.Intn(either(inIface, 3, 15)) == 0:
		flags |= api.AbstractFl
	}
	m := api.Method{Flags: flags}
	m.Name, m.Desc = named(text)
	if flags&api.AbstractFl == 0 {
		m.Locals, m.Code = 10, []api.Inst{{Op: api.Return}}
	}
	return m
}

// classes are those that arrive, with their code.
func (p *plan) classes() []api.Class {
	var out []api.Class
	for id := 3; id < p.full.Len(); id++ {
		c, _ := p.full.Class(id)
		for at := range c.Methods {
			if c.Methods[at].Code != nil {
				w := &writer{plan: p, class: c, method: c.Methods[at]}
				c.Methods[at] = w.written()
			}
		}
		out = append(out, c)
	}
	return out
}

// writer writes the code of a method, which mostly fits: each statement leaves the operands as they were.
type writer struct {
	*plan
	class  api.Class
	method api.Method
	kinds  []api.Type // of the locals
	code   []api.Inst
	depth  int // how many operands there are
	most   int
	starts []int // of the statements
	jumps  []int // instructions that are to jump to one of the starts
}

func (w *writer) written() api.Method {
	desc, _ := types.ParseDesc(w.method.Desc)
	if w.method.Flags&api.Static == 0 {
		w.kinds = append(w.kinds, api.Type{Name: w.class.Name})
	}
	w.kinds = append(w.kinds, desc.Args...)
	w.locals()
	for range 1 + w.Intn(7) {
		if len(w.code) < 60 {
			w.starts = append(w.starts, len(w.code))
			w.statement()
		}
	}
	w.starts = append(w.starts, len(w.code))
	switch {
	case desc.Void:
		w.op(api.Return)
	case desc.Ret == (api.Type{}):
		w.int(2)
		w.op(api.IReturn)
	default:
		w.ref(desc.Ret, 2)
		w.op(api.AReturn)
	}
	for _, at := range w.jumps {
		w.code[at].N = w.target(at)
	}
	m := w.method
	m.Locals, m.Stack, m.Code = len(w.kinds)+w.Intn(3), w.most+w.Intn(2), w.code
	if w.Intn(12) == 0 {
		m.Locals, m.Stack = 40, 40
	}
	if w.Intn(4) == 0 {
		w.spoil(&m)
	}
	return m
}

// target is mostly further on.
func (w *writer) target(at int) int {
	for range 4 {
		if to := pick(w.Rand, w.starts...); to > at {
			return to
		}
	}
	return pick(w.Rand, w.starts...)
}

// locals are set, as far as they hold references.
func (w *writer) locals() {
	for range 4 {
		t := w.typ()
		if t != (api.Type{}) {
			w.ref(t, 1)
			w.add(api.Inst{Op: api.AStore, N: len(w.kinds)})
		}
		w.kinds = append(w.kinds, t)
	}
}

// add keeps the count of operands.
func (w *writer) add(i api.Inst) {
	text, _ := code.Word(i.Op)
	w.depth += putsOf(text, i) - len(takes(text, i))
	w.most = max(w.most, w.depth)
	w.code = append(w.code, i)
}

func (w *writer) op(op int) {
	w.add(api.Inst{Op: op})
}

// putsOf tells how many operands an instruction puts.
func putsOf(text string, i api.Inst) int {
	switch {
	case strings.HasPrefix(text, "invoke"):
		if strings.HasSuffix(i.Ref.Desc, "V") {
			return 0
		}
		return 1
	case slices.Contains([]string{"istore", "astore", "goto", "pop", "iastore", "aastore", "ireturn", "areturn", "return", "print", "printclass"}, text), strings.HasPrefix(text, "if"):
		return 0
	case text == "dup", text == "swap":
		return 2
	}
	return 1
}

func (w *writer) statement() {
	isRef := w.Intn(2) == 0
	switch w.Intn(14) {
	case 0, 1:
		at := w.Intn(len(w.kinds))
		w.value(w.kinds[at], 3)
		w.add(api.Inst{Op: either(w.kinds[at] != api.Type{}, api.AStore, api.IStore), N: at})
	case 2:
		w.int(3)
		w.op(api.Print)
	case 3:
		w.ref(api.Type{Name: "Object"}, 3)
		w.op(api.PrintClass)
	case 4:
		w.any(isRef)
		w.op(api.Dup)
		w.op(api.Pop)
		w.op(api.Pop)
	case 5:
		w.any(isRef)
		w.any(w.Intn(2) == 0)
		w.op(api.Swap)
		w.op(api.Pop)
		w.op(api.Pop)
	case 6, 7:
		w.stored(isRef)
	case 8, 9:
		w.jump()
	case 10:
		if w.Intn(6) == 0 {
			w.printing()
		}
	default:
		if desc := w.invocation(3); !desc.Void {
			w.op(api.Pop)
		}
	}
}

func either(first bool, a, b int) int {
	if first {
		return a
	}
	return b
}

func (w *writer) any(isRef bool) {
	if isRef {
		w.ref(w.typOfRef(), 2)
	} else {
		w.int(2)
	}
}

func (w *writer) typOfRef() api.Type {
	for {
		if t := w.typ(); t != (api.Type{}) {
			return t
		}
	}
}

func (w *writer) value(t api.Type, depth int) {
	if t == (api.Type{}) {
		w.int(depth)
	} else {
		w.ref(t, depth)
	}
}

// stored writes a store into an array.
func (w *writer) stored(isRef bool) {
	if !isRef {
		w.ref(api.Type{Dims: 1}, 2)
		w.place()
		w.int(2)
		w.op(api.IAStore)
		return
	}
	t := w.typOfRef()
	t.Dims = min(t.Dims, 1)
	w.ref(api.Type{Dims: t.Dims + 1, Name: t.Name}, 2)
	w.place()
	if w.Intn(4) == 0 {
		t = w.typOfRef()
	}
	w.ref(t, 2)
	w.op(api.AAStore)
}

func (w *writer) place() {
	w.add(api.Inst{Op: api.IConst, N: pick(w.Rand, 0, 0, 0, 0, 0, 0, 0, 0, 0, 0, 1, 1, 2, -1)})
}

// printing writes what is left again when the output is full or the fuel is spent alone.
func (w *writer) printing() {
	if w.Intn(2) == 0 {
		w.add(api.Inst{Op: api.Goto, N: len(w.code) + 1})
		w.add(api.Inst{Op: api.IConst, N: int(int32(w.Uint32()))})
		w.op(api.Print)
		w.add(api.Inst{Op: api.Goto, N: len(w.code) - 2})
		return
	}
	w.ref(api.Type{Name: "Object"}, 1)
	w.op(api.Dup)
	w.op(api.PrintClass)
	w.add(api.Inst{Op: api.Goto, N: len(w.code) - 2})
	w.op(api.Pop)
}

func (w *writer) jump() {
	op := pick(w.Rand, api.Goto, api.IfEq, api.IfNe, api.IfLt, api.IfCmpEq, api.IfCmpLt, api.IfACmpEq, api.IfNull)
	text, _ := code.Word(op)
	for _, kind := range takes(text, api.Inst{}) {
		if kind == 'i' {
			w.int(2)
		} else {
			w.ref(api.Type{Name: "Object"}, 1)
		}
	}
	w.jumps = append(w.jumps, len(w.code))
	w.op(op)
}

// int puts an int.
func (w *writer) int(depth int) {
	if depth <= 0 || len(w.code) > 120 {
		w.add(api.Inst{Op: api.IConst, N: pick(w.Rand, 0, 1, 2, -1, w.Intn(10), leastInt, greatestInt)})
		return
	}
	switch w.Intn(12) {
	case 0, 1, 2:
		w.int(depth - 1)
		w.int(depth - 1)
		w.op(pick(w.Rand, api.IAdd, api.ISub, api.IMul, api.IDiv))
	case 3, 4:
		if at := w.local(api.Type{}); at >= 0 {
			w.add(api.Inst{Op: api.ILoad, N: at})
			return
		}
		w.int(0)
	case 5:
		w.ref(api.Type{Dims: 1 + w.Intn(2)}, depth-1)
		w.op(api.ArrayLength)
	case 6:
		w.ref(api.Type{Dims: 1}, depth-1)
		w.place()
		w.op(api.IALoad)
	case 7:
		t := w.typOfRef()
		w.ref(t, depth-1)
		if w.Intn(2) == 0 {
			t = w.typOfRef()
		}
		w.add(api.Inst{Op: api.InstanceOf, Type: refText(t)})
	case 8, 9:
		w.answered(depth, func(t api.Type) bool { return t == api.Type{} }, func() { w.int(0) })
	default:
		w.int(0)
	}
}

// local is one whose kind is below t, or -1.
func (w *writer) local(t api.Type) int {
	for range min(10, 10*len(w.kinds)) {
		at := w.Intn(len(w.kinds))
		if below, e := arrays.Sub(w.full, w.kinds[at], t); e == api.OK && below {
			return at
		}
	}
	return -1
}

func refText(t api.Type) string {
	text, _ := types.RefText(t)
	return text
}

func typeText(t api.Type) string {
	text, _ := types.Text(t)
	return text
}

// ref puts a reference that is mostly below t.
func (w *writer) ref(t api.Type, depth int) {
	if depth <= 0 || len(w.code) > 120 {
		w.fresh(t)
		return
	}
	switch w.Intn(20) {
	case 0:
		w.op(api.Null)
	case 1, 2, 3, 8, 9, 10, 11:
		if at := w.local(t); at >= 0 {
			w.add(api.Inst{Op: api.ALoad, N: at})
			return
		}
		w.fresh(t)
	case 4:
		w.ref(pick(w.Rand, t, t, api.Type{Name: "Object"}), depth-1)
		w.add(api.Inst{Op: api.CheckCast, Type: refText(pick(w.Rand, t, t, t, t, t, w.typOfRef()))})
	case 5:
		if t.Dims < 2 {
			w.ref(api.Type{Dims: t.Dims + 1, Name: t.Name}, depth-1)
			w.place()
			w.op(api.AALoad)
			return
		}
		w.fresh(t)
	case 6, 7:
		fits := func(s api.Type) bool {
			below, e := arrays.Sub(w.full, s, t)
			return e == api.OK && below
		}
		w.answered(depth, fits, func() { w.fresh(t) })
	default:
		w.fresh(t)
	}
}

// fresh puts a new object below t, or null if none is found.
func (w *writer) fresh(t api.Type) {
	isArray := t.Dims > 0 || w.Intn(4) == 0 && (t.Name == "Object" || t.Name == "Cloneable" || t.Name == "Serializable")
	switch {
	case isArray && t.Dims == 0:
		w.newArray(api.Type{Dims: 1 + w.Intn(2), Name: pick(w.Rand, "", pick(w.Rand, w.names...))})
	case isArray:
		w.newArray(t)
	default:
		if names := w.below(t); len(names) > 0 {
			w.add(api.Inst{Op: api.New, Type: pick(w.Rand, names...)})
			return
		}
		w.op(api.Null)
	}
}

// below are the names of the classes below t, rarely with those of which there is no object.
func (w *writer) below(t api.Type) []string {
	found, there := w.objects[t]
	if !there {
		for _, c := range w.all {
			if below, e := arrays.Sub(w.full, api.Type{Name: c.Name}, t); e != api.OK || !below {
				continue
			}
			found[1] = append(found[1], c.Name)
			if c.Flags&api.AbstractFl == 0 {
				found[0] = append(found[0], c.Name)
			}
		}
		w.objects[t] = found
	}
	if w.Intn(20) == 0 {
		return found[1]
	}
	return found[0]
}

func (w *writer) newArray(t api.Type) {
	count := func() {
		w.add(api.Inst{Op: api.IConst, N: pick(w.Rand, 1, 1, 1, 1, 1, 2, 2, 2, 3, pick(w.Rand, 0, 1, 2, 2, 9, 40, 400, -1, 20001))})
	}
	if t.Dims == 1 || w.Intn(2) == 0 {
		count()
		w.add(api.Inst{Op: api.NewArray, Type: typeText(api.Type{Dims: t.Dims - 1, Name: t.Name})})
		return
	}
	made := 1 + w.Intn(t.Dims)
	for range made {
		count()
	}
	w.add(api.Inst{Op: api.MultiNew, N: made, Type: refText(t)})
}

// found is a method of the plan with the class that has it.
type found struct {
	class  api.Class
	method api.Method
	desc   api.Desc
}

func (f found) ref() api.Ref {
	return api.Ref{Iface: f.class.Flags&api.Interface != 0, Class: f.class.Name, Name: f.method.Name, Desc: f.method.Desc}
}

// here is the class whose code is written.
func (w *writer) here() int {
	id, _ := w.full.ByName(w.class.Name)
	return id
}

func (w *writer) find(fits func(found) bool) (found, bool) {
	for range 25 {
		c := pick(w.Rand, w.all...)
		switch w.Intn(5) {
		case 0:
			c = w.class
		case 1: // interfaces are fewer
			for range 3 {
				if c.Flags&api.Interface == 0 {
					c = pick(w.Rand, w.all...)
				}
			}
		}
		if len(c.Methods) == 0 {
			continue
		}
		m := pick(w.Rand, c.Methods...)
		desc, _ := types.ParseDesc(m.Desc)
		f := found{c, m, desc}
		_, e := resolve.Method(w.full, w.here(), f.ref())
		isStatic := m.Flags&api.Static != 0
		if isStatic && w.Intn(4) > 0 {
			continue // there are more of them than of the others
		}
		hasReceiver := isStatic || len(w.below(api.Type{Name: c.Name})) > 0
		if fits(f) && (e == api.OK && hasReceiver || w.Intn(20) == 0) {
			return f, true
		}
	}
	return found{}, false
}

// answered puts what an invocation answers, if one is found.
func (w *writer) answered(depth int, fits func(t api.Type) bool, otherwise func()) {
	f, there := w.find(func(f found) bool { return !f.desc.Void && fits(f.desc.Ret) })
	if !there {
		otherwise()
		return
	}
	w.invoke(f, depth)
}

func (w *writer) invocation(depth int) api.Desc {
	f, there := w.find(func(f found) bool { return f.method.Name[0] != '<' || w.Intn(4) == 0 })
	if !there {
		f.class = w.all[0]
		f.method = f.class.Methods[1]
		f.desc, _ = types.ParseDesc(f.method.Desc)
	}
	w.invoke(f, depth)
	return f.desc
}

// invoke names the method by its class or one below it.
func (w *writer) invoke(f found, depth int) {
	for range w.Intn(4) {
		at := pick(w.Rand, w.all...)
		below, _ := arrays.Sub(w.full, api.Type{Name: at.Name}, api.Type{Name: f.class.Name})
		if below && f.method.Name != "<init>" && f.method.Flags&api.Static == 0 {
			f.class = at
			break
		}
	}
	r := f.ref()
	op := either(r.Iface, api.InvInterface, api.InvVirtual)
	switch {
	case f.method.Flags&api.Static != 0:
		op = api.InvStatic
	case f.method.Name == "<init>", f.method.Flags&api.Private != 0, w.Intn(5) == 0:
		op = api.InvSpecial
	}
	switch w.Intn(180) {
	case 0, 1:
		r.Iface = !r.Iface
	case 2, 3:
		r.Name = "none"
	case 4, 5:
		r.Class = "no/Such"
	case 6, 7, 8, 9:
		op = pick(w.Rand, api.InvVirtual, api.InvInterface, api.InvSpecial, api.InvStatic)
	}
	switch {
	case op == api.InvStatic:
	case r.Class == w.class.Name && w.method.Flags&api.Static == 0 && w.Intn(3) > 0:
		w.add(api.Inst{Op: api.ALoad, N: 0})
	default:
		w.ref(api.Type{Name: f.class.Name}, either(w.Intn(2) == 0, depth-1, 0))
	}
	for _, arg := range f.desc.Args {
		w.value(arg, depth-1)
	}
	w.add(api.Inst{Op: op, Ref: r})
}

// spoil turns a little of a method that may have fitted.
func (w *writer) spoil(m *api.Method) {
	for range 1 + w.Intn(2) {
		at := w.Intn(len(m.Code))
		switch w.Intn(12) {
		case 0:
			m.Code = slices.Delete(m.Code, at, at+1)
		case 1:
			m.Code = slices.Insert(m.Code, at, m.Code[at])
		case 2:
			m.Stack = max(m.Stack-1, 0)
		case 3:
			m.Code = m.Code[:len(m.Code)-1]
		default:
			m.Code = slices.Insert(m.Code, at, w.odd(m))
		}
		if len(m.Code) == 0 {
			m.Code = []api.Inst{{Op: api.Null}}
		}
	}
	m.Code = m.Code[:min(len(m.Code), api.MaxCode)]
	for at, i := range m.Code {
		if code.Operand(i.Op) == 3 {
			m.Code[at].N = min(i.N, len(m.Code)-1)
		}
	}
}

// odd is any instruction that is sound in a method.
func (w *writer) odd(m *api.Method) api.Inst {
	i := api.Inst{Op: 1 + w.Intn(40)}
	switch code.Operand(i.Op) {
	case 1:
		i.N = int(int32(w.Uint32()))
	case 2:
		if m.Locals == 0 {
			return api.Inst{Op: api.Null}
		}
		i.N = w.Intn(m.Locals)
	case 3:
		i.N = w.Intn(len(m.Code))
	case 4:
		i.Type = pick(w.Rand, w.names...)
	case 5:
		i.Type = refText(w.typOfRef())
	case 6:
		i.Type = typeText(w.typ())
	case 7:
		i.N, i.Type = 1+w.Intn(3), "[[["+typeText(w.typ())
	case 8:
		i.Ref = api.Ref{Iface: w.Intn(2) == 0, Class: refText(w.typOfRef())}
		i.Ref.Name, i.Ref.Desc = named(pick(w.Rand, w.methods...))
	}
	return i
}

// TestThePlanIsSound: else the random worlds would show less than they seem to.
func TestThePlanIsSound(t *testing.T) {
	for seed := range int64(15) {
		p := newPlan(rand.New(rand.NewSource(seed)), 14)
		w := hier.New()
		for _, c := range p.classes() {
			if _, e := w.Define(c); e != api.OK {
				t.Fatalf("seed %d: Define(%.300s): %d", seed, fmt.Sprintf("%+v", c), e)
			}
		}
	}
}

// random runs methods of a world while its classes arrive, on several engines.
func random(t *testing.T, seed int64, seen map[met]int) {
	r := rand.New(rand.NewSource(seed))
	p := newPlan(r, 14)
	classes := p.classes()
	early := len(classes) - r.Intn(len(classes))/2
	l := linkerOf(t, classes[:early]...)
	w := l.World()
	var engines []subject
	for _, capacity := range []int{0, 1, 2, 5, 64} {
		engines = append(engines, newSubject(t, l, capacity))
	}
	for _, s := range engines {
		s.second.seen = seen
	}
	for turn := 0; turn < 150 && !t.Failed(); turn++ {
		if w.Len()-3 < len(classes) && r.Intn(6) == 0 {
			define(t, w, classes[w.Len()-3])
		}
		main, args := p.main(classes)
		s := pick(r, engines...)
		fuel := pick(r, 0, 1, r.Intn(30), 400, 400, 5000)
		result, _ := s.run(t, main, args, fuel)
		if n := result.Spent; n > 0 && n < fuel && r.Intn(4) == 0 {
			pick(r, engines...).run(t, main, args, n)
			pick(r, engines...).run(t, main, args, n-1)
		}
	}
	if t.Failed() {
		t.Fatalf("seed %d", seed)
	}
}

// main is mostly a static method of ints.
func (p *plan) main(classes []api.Class) (api.Ref, []int) {
	c := pick(p.Rand, classes...)
	m := pick(p.Rand, c.Methods...)
	for range 10 {
		if strings.HasPrefix(m.Name, "main") || m.Name[0] == 's' {
			break
		}
		m = pick(p.Rand, c.Methods...)
	}
	main := api.Ref{Iface: c.Flags&api.Interface != 0, Class: c.Name, Name: m.Name, Desc: m.Desc}
	if p.Intn(30) == 0 {
		main.Iface = !main.Iface
	}
	n, _ := types.Args(m.Desc)
	var args []int
	for range n {
		args = append(args, pick(p.Rand, 0, 1, -1, p.Intn(20), leastInt, greatestInt))
	}
	if p.Intn(50) == 0 {
		args = append(args, pick(p.Rand, 0, 1<<31))
	}
	return main, args
}

// errorsOf are those that the chapter's table names for an instruction, but for those of invocations' selections.
func errorsOf(w string) []api.Errno {
	const form = api.Malformed
	switch w {
	case "":
		return []api.Errno{form, api.FuelSpent}
	case "goto":
		return nil
	case "idiv":
		return []api.Errno{form, api.Arithmetic}
	case "new":
		return []api.Errno{form, api.NoClassDef, api.IllegalAccess, api.Instantiation, api.OutOfMemory}
	case "newarray", "multinew":
		return []api.Errno{form, api.NoClassDef, api.IllegalAccess, api.NegativeSize, api.OutOfMemory}
	case "arraylength":
		return []api.Errno{form, api.NullPointer}
	case "iaload", "aaload", "iastore":
		return []api.Errno{form, api.NullPointer, api.IndexBounds}
	case "aastore":
		return []api.Errno{form, api.NullPointer, api.IndexBounds, api.ArrayStore}
	case "checkcast":
		return []api.Errno{form, api.NoClassDef, api.IllegalAccess, api.ClassCast}
	case "instanceof":
		return []api.Errno{form, api.NoClassDef, api.IllegalAccess}
	case "print":
		return []api.Errno{form, api.OutFull}
	case "printclass":
		return []api.Errno{form, api.NullPointer, api.OutFull}
	case "invokestatic":
		return []api.Errno{form, api.NoClassDef, api.NoSuchMethod, api.IllegalAccess, api.Incompatible, api.StackOverflow}
	case "invokevirtual", "invokeinterface", "invokespecial":
		return []api.Errno{form, api.NoClassDef, api.NoSuchMethod, api.IllegalAccess, api.Incompatible, api.StackOverflow, api.NullPointer, api.Abstract}
	}
	return []api.Errno{form}
}

func TestRandomRuns(t *testing.T) { // P22.2 to P22.4, P0.2, P0.3
	seen := map[met]int{}
	for seed := range int64(90) {
		random(t, seed, seen)
	}
	// Without all of it the random runs would show little.
	thrown := map[api.Errno]int{}
	for op := range 41 {
		w, _ := code.Word(op)
		if n := seen[met{w, api.OK}]; op > 0 && n < 30 {
			t.Errorf("%s was done %d times alone", w, n)
		}
		delete(seen, met{w, api.OK})
		for _, e := range errorsOf(w) {
			thrown[e] += seen[met{w, e}]
			delete(seen, met{w, e})
		}
	}
	for e := api.NoClassDef; e <= api.OutFull; e++ {
		if n := thrown[e]; n < 10 && e != api.Linkage {
			t.Errorf("%s was thrown %d times alone", word(e), n)
		}
	}
	if len(seen) > 0 {
		t.Errorf("errors that the chapter does not name: %v", seen)
	}
}
