package engine

import (
	"strings"

	"arbiter/api"
	"arbiter/arrays"
	"arbiter/choose"
	"arbiter/heap"
	"arbiter/stack"
	"arbiter/types"
)

// run is one run of an engine. Each method of it that does an instruction throws what the instruction throws.
type run struct {
	*Engine
	heap   *heap.Heap
	stack  *stack.Stack
	frames []frame // one for each frame of the stack
	out    strings.Builder
	fuel   int
	result api.Result
}

// frame is which method runs, and the number of its instruction that comes next.
type frame struct {
	api.Method
	id   api.MethodID
	next int
}

// thrown is an error on its way up, as the value of a panic: so what comes behind it is left wherever it is met.
type thrown api.Errno

func throw(err api.Errno) {
	panic(thrown(err))
}

func throwIf(bad bool, err api.Errno) {
	if bad {
		throw(err)
	}
}

// check throws an error, if it is one.
func check(err api.Errno) {
	throwIf(err != api.OK, err)
}

// orThrow answers what a call of another layer answers, or throws its error.
func orThrow[T any](answer T, err api.Errno) T {
	check(err)
	return answer
}

// caught does the work, and answers what it throws.
func caught(work func()) (err api.Errno) {
	defer func() {
		switch x := recover().(type) {
		case nil:
		case thrown:
			err = api.Errno(x)
		default:
			// No call panics, so a fault of the program's own ends the run as what does not fit.
			err = api.Malformed
		}
	}()
	work()
	return api.OK
}

func newRun(g *Engine, fuel int) (*run, api.Errno) {
	h, err := heap.New(g.linker)
	if err != api.OK {
		return nil, err
	}
	return &run{Engine: g, heap: h, stack: stack.New(), fuel: min(max(fuel, 0), api.MaxFuel)}, api.OK
}

// whole goes on till the frame of main is left, or something is thrown.
func (r *run) whole(main api.Ref, args []int) api.Result {
	r.result.Thrown = caught(func() {
		r.begin(main, args)
		for len(r.frames) > 0 {
			r.step()
		}
	})
	r.result.Out = r.out.String()
	return r.result
}

func (r *run) begin(main api.Ref, args []int) {
	m := orThrow(choose.Call(r.linker.World(), r.beginner(main), api.StaticInv, main, api.Type{}))
	var values []api.Value
	for _, arg := range args {
		values = append(values, api.Value{N: arg})
	}
	r.enter(m, values)
}

// beginner answers the class that invokes main: the one that main names, so that it may be private.
func (r *run) beginner(main api.Ref) int {
	t := orThrow(types.ParseRef(main.Class))
	// What is not loaded has no holder, and 0, which is answered beside the error, is the class that stands in for it.
	d, _ := arrays.Holder(r.linker.World(), t)
	return d
}

// enter begins a method, with values for its first locals.
func (r *run) enter(m api.MethodID, values []api.Value) {
	method := orThrow(r.linker.World().Method(m))
	check(r.stack.Enter(method.Locals, method.Stack))
	for at, v := range values {
		check(r.stack.SetLocal(at, v))
	}
	r.frames = append(r.frames, frame{Method: method, id: m})
}

// leave ends the top frame's method, with the value that it answers, if it answers one.
func (r *run) leave(answer ...api.Value) {
	check(r.stack.Leave())
	r.frames = r.frames[:len(r.frames)-1]
	for _, v := range answer {
		if len(r.frames) == 0 {
			r.result.Has, r.result.Value = true, v
			return
		}
		r.put(v)
	}
}

// top answers the frame in its place, not a copy. It is another one as soon as a method is entered or left.
func (r *run) top() *frame {
	return &r.frames[len(r.frames)-1]
}

// step does the instruction that comes next. The one behind it is told ahead of that, since a jump says otherwise.
func (r *run) step() {
	top := r.top()
	throwIf(top.next >= len(top.Code), api.Malformed)
	throwIf(r.result.Spent >= r.fuel, api.FuelSpent)
	r.result.Spent++
	i := top.Code[top.next]
	top.next++
	r.do(i)
}

// do finds what an instruction does.
func (r *run) do(i api.Inst) {
	switch i.Op {
	case api.IConst:
		r.putInt(i.N)
	case api.Null:
		r.putRef(null)
	case api.ILoad, api.ALoad:
		r.load(i)
	case api.IStore, api.AStore:
		r.store(i)
	case api.IAdd, api.ISub, api.IMul, api.IDiv:
		r.compute(i.Op)
	case api.Goto, api.IfEq, api.IfNe, api.IfLt, api.IfCmpEq, api.IfCmpLt, api.IfACmpEq, api.IfNull:
		r.jump(i)
	case api.Pop:
		r.take()
	case api.Dup:
		r.dup()
	case api.Swap:
		r.swap()
	case api.New:
		r.newObject(i.Type)
	case api.NewArray:
		r.newArray(i.Type)
	case api.MultiNew:
		r.multiNew(i)
	case api.ArrayLength:
		r.arrayLength()
	case api.IALoad, api.AALoad:
		r.loadElement(i.Op == api.AALoad)
	case api.IAStore, api.AAStore:
		r.storeElement(i.Op == api.AAStore)
	case api.CheckCast:
		r.checkCast(i.Type)
	case api.InstanceOf:
		r.instanceOf(i.Type)
	case api.InvVirtual, api.InvInterface, api.InvSpecial, api.InvStatic:
		r.invoke(i)
	case api.IReturn:
		r.returnInt()
	case api.AReturn:
		r.returnRef()
	case api.Return:
		r.returnNothing()
	case api.Print:
		r.print()
	case api.PrintClass:
		r.printClass()
	default:
		throw(api.Malformed)
	}
}
