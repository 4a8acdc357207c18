package engine

import (
	"slices"

	"arbiter/api"
	"arbiter/site"
	"arbiter/types"
)

// invoke enters the method that a call site selects. There are no values in receiver, if the kind is that of static methods.
func (r *run) invoke(i api.Inst) {
	kind := kindOf(i.Op)
	desc := orThrow(types.ParseDesc(i.Ref.Desc))
	args := r.takeArgs(desc.Args)
	var receiver []api.Value
	if kind != api.StaticInv {
		receiver = append(receiver, r.takeKind(true))
	}
	here := r.siteOf(kind, i.Ref)
	check(here.Link())
	var recv api.Type
	for _, this := range receiver {
		recv = orThrow(r.heap.TypeOf(this.N))
	}
	m := orThrow(here.Call(recv))
	for at, arg := range args {
		throwIf(!r.fits(arg, desc.Args[at]), api.Malformed)
	}
	r.enter(m, append(receiver, args...))
	orThrow(r.entered.Add(kind-1, 1))
}

func kindOf(op int) int {
	switch op {
	case api.InvVirtual:
		return api.Virtual
	case api.InvInterface:
		return api.Iface
	case api.InvSpecial:
		return api.Special
	}
	return api.StaticInv
}

// takeArgs takes the last argument first, as it was put last.
func (r *run) takeArgs(list []api.Type) []api.Value {
	args := make([]api.Value, len(list))
	for at, t := range slices.Backward(list) {
		args[at] = r.takeKind(t != intType())
	}
	return args
}

// fits tells whether a value of the right kind may stand where one of the type t is asked for.
func (r *run) fits(v api.Value, t api.Type) bool {
	return !v.Ref || v.N == null || r.isBelow(v.N, t)
}

// siteOf answers the call site of the instruction that is being done.
func (r *run) siteOf(kind int, ref api.Ref) *site.Site {
	top := r.top()
	at := spot{method: top.id, number: top.next - 1}
	s, there := r.sites[at]
	if !there {
		s = orThrow(site.New(r.linker, top.id.Class, kind, ref, r.capacity))
		r.sites[at] = s
	}
	return s
}

// desc answers the descriptor of the method that runs.
func (r *run) desc() api.Desc {
	return orThrow(types.ParseDesc(r.top().Desc))
}

func (r *run) returnInt() {
	v := r.takeKind(false)
	desc := r.desc()
	throwIf(desc.Void || desc.Ret != intType(), api.Malformed)
	r.leave(v)
}

func (r *run) returnRef() {
	v := r.takeKind(true)
	desc := r.desc()
	// A descriptor that answers nothing has the type int there, too.
	throwIf(desc.Ret == intType() || !r.fits(v, desc.Ret), api.Malformed)
	r.leave(v)
}

func (r *run) returnNothing() {
	throwIf(!r.desc().Void, api.Malformed)
	r.leave()
}
