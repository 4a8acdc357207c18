package engine

import "arbiter/api"

// null is the number of no object.
const null = 0

func (r *run) put(v api.Value) {
	check(r.stack.Put(v))
}

func (r *run) putInt(n int) {
	r.put(api.Value{N: n})
}

func (r *run) putRef(ref int) {
	r.put(api.Value{Ref: true, N: ref})
}

func (r *run) take() api.Value {
	return orThrow(r.stack.Take())
}

// takeKind takes a reference, or an int.
func (r *run) takeKind(isRef bool) api.Value {
	v := r.take()
	throwIf(v.Ref != isRef, api.Malformed)
	return v
}

func (r *run) takeInt() int {
	return r.takeKind(false).N
}

func (r *run) takeRef() int {
	return r.takeKind(true).N
}

func (r *run) load(i api.Inst) {
	v := orThrow(r.stack.Local(i.N))
	throwIf(v.Ref != (i.Op == api.ALoad), api.Malformed)
	r.put(v)
}

func (r *run) store(i api.Inst) {
	v := r.takeKind(i.Op == api.AStore)
	check(r.stack.SetLocal(i.N, v))
}

func (r *run) dup() {
	v := r.take()
	r.put(v)
	r.put(v)
}

func (r *run) swap() {
	b := r.take()
	a := r.take()
	r.put(b)
	r.put(a)
}

func (r *run) compute(op int) {
	b := r.takeInt()
	a := r.takeInt()
	throwIf(op == api.IDiv && b == 0, api.Arithmetic)
	r.putInt(wrapped(computed(op, a, b)))
}

// computed takes ints of 32 bits, and no division by 0.
func computed(op, a, b int) int {
	switch op {
	case api.IAdd:
		return a + b
	case api.ISub:
		return a - b
	case api.IMul:
		return a * b
	}
	return a / b
}

func wrapped(n int) int {
	return int(int32(n))
}

func (r *run) jump(i api.Inst) {
	if r.isMet(i.Op) {
		r.top().next = i.N
	}
}

// isMet takes what the condition of a jump asks for. That of goto is always met.
func (r *run) isMet(op int) bool {
	switch op {
	case api.IfEq:
		return r.takeInt() == 0
	case api.IfNe:
		return r.takeInt() != 0
	case api.IfLt:
		return r.takeInt() < 0
	case api.IfCmpEq:
		b, a := r.takeInt(), r.takeInt()
		return a == b
	case api.IfCmpLt:
		b, a := r.takeInt(), r.takeInt()
		return a < b
	case api.IfACmpEq:
		b, a := r.takeRef(), r.takeRef()
		return a == b
	case api.IfNull:
		return r.takeRef() == null
	}
	return true
}
