package engine

import (
	"slices"
	"strconv"

	"arbiter/api"
	"arbiter/arrays"
	"arbiter/resolve"
	"arbiter/types"
)

const (
	arrayMark = "["
	lineEnd   = "\n"
)

// resolved answers the type that a reference's text names, seen from the class whose code runs.
func (r *run) resolved(text string) api.Type {
	return orThrow(resolve.Class(r.linker.World(), r.top().id.Class, text))
}

func (r *run) newObject(name string) {
	class := orThrow(arrays.Holder(r.linker.World(), r.resolved(name)))
	r.putRef(orThrow(r.heap.Object(class)))
}

func (r *run) newArray(element string) {
	n := r.takeInt()
	component := orThrow(types.Component(r.resolved(arrayMark + element)))
	r.putRef(orThrow(r.heap.Array(component, n)))
}

func (r *run) multiNew(i api.Inst) {
	counts := make([]int, i.N)
	for at := range slices.Backward(counts) {
		counts[at] = r.takeInt()
	}
	t := r.resolved(i.Type)
	r.putRef(orThrow(r.heap.Multi(t, counts)))
}

func (r *run) arrayLength() {
	ref := r.takeRef()
	t := orThrow(r.heap.TypeOf(ref))
	throwIf(t.Dims == 0, api.Malformed)
	r.putInt(orThrow(r.heap.Length(ref)))
}

// takeArray takes an array of references, or one of ints.
func (r *run) takeArray(ofRefs bool) int {
	ref := r.takeRef()
	component, err := types.Component(orThrow(r.heap.TypeOf(ref)))
	throwIf(err != api.OK || (component != intType()) != ofRefs, api.Malformed)
	return ref
}

func (r *run) loadElement(isRef bool) {
	i := r.takeInt()
	ref := r.takeArray(isRef)
	r.put(orThrow(r.heap.Get(ref, i)))
}

func (r *run) storeElement(isRef bool) {
	v := r.takeKind(isRef)
	i := r.takeInt()
	ref := r.takeArray(isRef)
	check(r.heap.Set(ref, i, v))
}

func (r *run) checkCast(text string) {
	ref := r.takeRef()
	if ref != null {
		throwIf(!r.isBelow(ref, r.resolved(text)), api.ClassCast)
	}
	r.putRef(ref)
}

func (r *run) instanceOf(text string) {
	ref := r.takeRef()
	if ref != null && r.isBelow(ref, r.resolved(text)) {
		r.putInt(1)
	} else {
		r.putInt(0)
	}
}

// isBelow takes references to objects. Below a type that is not loaded there is none.
func (r *run) isBelow(ref int, t api.Type) bool {
	below, _, err := r.linker.Below(orThrow(r.heap.TypeOf(ref)), t)
	return err == api.OK && below
}

func (r *run) print() {
	r.write(strconv.Itoa(r.takeInt()))
}

func (r *run) printClass() {
	t := orThrow(r.heap.TypeOf(r.takeRef()))
	r.write(orThrow(types.RefText(t)))
}

// write writes a whole line, or nothing of it.
func (r *run) write(line string) {
	throwIf(r.out.Len()+len(line)+len(lineEnd) > api.MaxOutBytes, api.OutFull)
	r.out.WriteString(line)
	r.out.WriteString(lineEnd)
}
