package site

import (
	"fmt"
	"math/rand"
	"slices"
	"strings"
	"testing"

	"arbiter/api"
	"arbiter/choose"
	"arbiter/hier"
	"arbiter/link"
	"arbiter/resolve"
	"arbiter/types"
)

// told is a site a second time: it has neither tables nor a cache, and asks the definition anew for each answer.
type told struct {
	world    *hier.World
	d, kind  int
	ref      api.Ref
	resolved bool
}

// refuses is the error of the first part of a call. Whoever may be a receiver may run Object's <init>: so nothing else is refused here.
func (x *told) refuses(recv api.Type) api.Errno {
	if x.kind == api.StaticInv {
		return api.OK
	}
	_, e := choose.Call(x.world, 0, api.Special, ref("Object.<init>()V"), recv)
	return e
}

// isMalformed asks with a receiver that none refuses: the second part alone answers this error.
func (x *told) isMalformed() bool {
	_, e := choose.Call(x.world, x.d, x.kind, x.ref, typ("Object"))
	return e == api.Malformed
}

func (x *told) resolve() (api.MethodID, api.Errno) {
	m, e := resolve.Method(x.world, x.d, x.ref)
	x.resolved = x.resolved || e == api.OK
	return m, e
}

func (x *told) call(recv api.Type) (api.MethodID, api.Errno) {
	if x.refuses(recv) == api.OK && !x.isMalformed() {
		x.resolve()
	}
	return choose.Call(x.world, x.d, x.kind, x.ref, recv)
}

func (x *told) link() api.Errno {
	if x.isMalformed() {
		return api.Malformed
	}
	id, e := x.resolve()
	if e != api.OK {
		return e
	}
	m, _ := x.world.Method(id)
	isStatic, isPrivate := m.Flags&api.Static != 0, m.Flags&api.Private != 0
	if isStatic != (x.kind == api.StaticInv) || isPrivate && x.kind == api.Iface {
		return api.Incompatible
	}
	return api.OK
}

func (x *told) calls(list []api.Type, workers int) (methods []api.MethodID, errs []api.Errno, e api.Errno) {
	if workers <= 0 || workers >= 17 {
		return nil, nil, api.ErrArg
	}
	if len(list) >= 4097 {
		return nil, nil, api.ErrLarge
	}
	type both struct {
		method api.MethodID
		err    api.Errno
	}
	known := map[api.Type]both{}
	for _, recv := range list {
		one, there := known[recv]
		if !there {
			one.method, one.err = x.call(recv)
			known[recv] = one
		}
		methods, errs = append(methods, one.method), append(errs, one.err)
	}
	return methods, errs, api.OK
}

// isBound tells whether there is a bound for what a Call reads.
func (x *told) isBound(recv api.Type) bool {
	return x.resolved && (recv.Dims == 0 || x.kind == api.StaticInv)
}

// bound is asked of sites that are resolved.
func (x *told) bound(recv api.Type) int {
	m, _ := resolve.Method(x.world, x.d, x.ref)
	named, _ := types.ParseRef(x.ref.Class)
	c, _ := x.world.ByName(named.Name)
	overIface := named.Dims == 0 && x.world.IsIface(c)
	if x.kind != api.Iface && !x.world.IsIface(m.Class) && !overIface {
		return 8
	}
	if recv.Dims > 0 {
		return 8 // of StaticInv: the holder is Object, which has no interface above it
	}
	r, e := x.world.ByName(recv.Name)
	if e != api.OK {
		return 8
	}
	closure, _ := x.world.Closure(r)
	return 8 + len(closure)
}

// subject is a site, and the same told a second time.
type subject struct {
	*Site
	second *told
}

func newSubject(t *testing.T, l *link.Linker, d, kind int, r api.Ref, capacity int) subject {
	t.Helper()
	s, e := New(l, d, kind, r, capacity)
	if s == nil || e != api.OK {
		t.Fatalf("New(%d, %d, %s, %d) = %v, %d", d, kind, show(r), capacity, s, e)
	}
	return subject{s, &told{world: l.World(), d: d, kind: kind, ref: r}}
}

// about says which site it is.
func (s subject) about() string {
	return fmt.Sprintf("site of %d, kind %d, %s, %d classes", s.second.d, s.second.kind, show(s.second.ref), s.second.world.Len())
}

// call holds all that a Call does against the second telling, and answers what it answered.
func (s subject) call(t *testing.T, recv api.Type) (api.MethodID, api.Errno) {
	t.Helper()
	isBound, before := s.second.isBound(recv), s.Reads()
	got, e := s.Call(recv)
	if want, wantErr := s.second.call(recv); got != want || e != wantErr {
		t.Errorf("%s: Call(%s) = %v, %d, want %v, %d", s.about(), show(recv), got, e, want, wantErr)
	}
	rose := s.Reads() - before
	if rose < 0 || isBound && rose > s.second.bound(recv) {
		t.Errorf("%s: Call(%s) reads %d words, of at most %d", s.about(), show(recv), rose, s.second.bound(recv))
	}
	s.isResolved(t, s.second.resolved)
	return got, e
}

// calls holds all that Calls does against the second telling.
func (s subject) calls(t *testing.T, list []api.Type, workers int) {
	t.Helper()
	before := s.Reads()
	got, errs, e := s.Calls(list, workers)
	want, wantErrs, wantErr := s.second.calls(list, workers)
	if !slices.Equal(got, want) || !slices.Equal(errs, wantErrs) || e != wantErr {
		t.Errorf("%s: Calls(%d types %s, %d) = %s, %s, %d, want %s, %s, %d", s.about(), len(list), show(list), workers, show(got), show(errs), e, show(want), show(wantErrs), wantErr)
	}
	if now := s.Reads(); now < before || e != api.OK && now != before {
		t.Errorf("%s: Calls(%s, %d) has turned Reads from %d into %d", s.about(), show(list), workers, before, now)
	}
	s.isResolved(t, s.second.resolved)
}

func (s subject) link(t *testing.T) api.Errno {
	t.Helper()
	before := s.Reads()
	got := s.Link()
	if want := s.second.link(); got != want {
		t.Errorf("%s: Link() = %d, want %d", s.about(), got, want)
	}
	if now := s.Reads(); now < before {
		t.Errorf("%s: Link() has turned Reads from %d into %d", s.about(), before, now)
	}
	s.isResolved(t, s.second.resolved)
	return got
}

func (s subject) isResolved(t *testing.T, want bool) {
	t.Helper()
	if got := s.Resolved(); got != want {
		t.Errorf("%s: Resolved() = %v", s.about(), got)
	}
}

func pick[T any](r *rand.Rand, from ...T) T {
	return from[r.Intn(len(from))]
}

// randomMethods have few names, so that many meet, at places that turn.
func randomMethods(r *rand.Rand, inIface bool) []api.Method {
	all := []string{"m", "n", "m(I)V", "id()I", "kin()LObject;", "<init>", "<init>(I)V"}
	if inIface {
		all = all[:5]
	}
	r.Shuffle(len(all), func(a, b int) { all[a], all[b] = all[b], all[a] })
	var out []api.Method
	for _, name := range all[:r.Intn(5)] {
		flags := pick(r, normal, normal, api.Protected, 0, api.Private)
		if inIface {
			flags = pick(r, normal, normal, normal, api.Private)
		}
		switch r.Intn(5) {
		case 0:
			flags |= api.Static
		case 1:
			if flags != api.Private {
				flags |= api.AbstractFl
			}
		}
		if strings.HasPrefix(name, "<") {
			flags &^= api.Static | api.AbstractFl
		}
		out = append(out, method(name, flags))
	}
	return out
}

// randomClass names at most what is there; a world may refuse it, for what it names may be shut.
func randomClass(r *rand.Rand, n int, there []api.Class) api.Class {
	c := class(fmt.Sprint(pick(r, "", "p/", "p/", "q/"), "C", n), "Object")
	isIface := r.Intn(3) == 0
	switch {
	case isIface:
		c.Flags = api.Public | api.Interface | api.AbstractFl
	case r.Intn(3) == 0:
		c = old(c)
	}
	if r.Intn(8) == 0 {
		c = shut(c)
	}
	c.Loader = pick(r, 0, 0, 0, 0, 9)
	for range 1 + r.Intn(6) {
		above := there[max(r.Intn(len(there)), r.Intn(len(there)))]
		switch {
		case above.Flags&api.Interface == 0 && !isIface:
			c.Super = above.Name
		case above.Flags&api.Interface != 0 && !slices.Contains(c.Ifaces, above.Name):
			c.Ifaces = append(c.Ifaces, above.Name)
		}
	}
	c.Methods = randomMethods(r, isIface)
	return c
}

// randomClasses begin with the three that every world has, and arrive without being refused.
func randomClasses(t *testing.T, seed int64, count int) []api.Class {
	t.Helper()
	r := rand.New(rand.NewSource(seed))
	w := hier.New()
	for n := 0; w.Len() < count; n++ {
		c := randomClass(r, n, classesOf(w))
		if _, e := w.Define(c); e != api.OK && e != api.IllegalAccess {
			t.Fatalf("Define(%s): %d", show(c), e)
		}
	}
	return classesOf(w)
}

func classesOf(w *hier.World) []api.Class {
	var out []api.Class
	for id := range w.Len() {
		c, _ := w.Class(id)
		out = append(out, c)
	}
	return out
}

// randomRef draws a reference that mostly names a class that is there or will arrive, and a method that some class has.
func randomRef(r *rand.Rand, classes []api.Class) api.Ref {
	c, holder := pick(r, classes...), pick(r, classes...)
	if r.Intn(2) == 0 {
		holder = c
	}
	out := api.Ref{Iface: c.Flags&api.Interface != 0, Class: c.Name, Name: "none", Desc: "()V"}
	if r.Intn(20) > 0 && len(holder.Methods) > 0 {
		m := pick(r, holder.Methods...)
		out.Name, out.Desc = m.Name, m.Desc
	}
	switch r.Intn(20) {
	case 0:
		out.Class, out.Iface = "[L"+c.Name+";", false
	case 1:
		out.Class = "no/Such"
	case 2:
		out.Iface = !out.Iface
	case 3:
		out.Class, out.Iface = pick(r, "[I", "[[I"), false
	}
	return out
}

func randomKind(r *rand.Rand, from api.Ref) int {
	switch {
	case r.Intn(10) == 0:
		return pick(r, allKinds...)
	case from.Name == "<init>":
		return api.Special
	case from.Iface:
		return pick(r, api.Iface, api.Iface, api.Special, api.StaticInv)
	}
	return pick(r, api.Virtual, api.Virtual, api.Special, api.StaticInv)
}

// randomReceiver draws a type that is mostly below the one that the reference names, if there is one.
func (s subject) randomReceiver(r *rand.Rand) api.Type {
	w := s.second.world
	draw := func() api.Type {
		c, _ := w.Class(r.Intn(w.Len()))
		return api.Type{Dims: pick(r, 0, 0, 0, 0, 1, 2), Name: c.Name}
	}
	named, _ := types.ParseRef(s.second.ref.Class)
	upper, _ := w.ByName(named.Name)
	if r.Intn(4) > 0 {
		for range 12 {
			recv := draw()
			id, _ := w.ByName(recv.Name)
			if recv.Dims == named.Dims && w.Extends(id, upper) && !w.IsIface(id) {
				return recv
			}
		}
	}
	return pick(r, draw(), draw(), draw(), api.Type{}, api.Type{Dims: 1}, api.Type{Dims: 256}, api.Type{Dims: -1, Name: "Object"}, typ("no/Such"), typ("1"), typ("I"))
}

// randomReceivers are some, or as many as may be asked for, or one more.
func (s subject) randomReceivers(r *rand.Rand) []api.Type {
	var out []api.Type
	for range pick(r, 0, 1, 2, r.Intn(20), r.Intn(20), r.Intn(200)) {
		out = append(out, s.randomReceiver(r))
	}
	if r.Intn(20) == 0 {
		return slices.Repeat([]api.Type{s.randomReceiver(r)}, pick(r, 4096, 4097))
	}
	return out
}

// step asks the same of both.
func (s subject) step(t *testing.T, r *rand.Rand) {
	t.Helper()
	switch n := r.Intn(100); {
	case n < 4:
		s.link(t)
	case n < 12:
		s.calls(t, s.randomReceivers(r), pick(r, 1, 2, 16, r.Intn(20)-1))
	default:
		s.call(t, s.randomReceiver(r))
	}
}

// randomSubject is a site of a class that is there.
func randomSubject(t *testing.T, r *rand.Rand, l *link.Linker, classes []api.Class) subject {
	t.Helper()
	from := randomRef(r, classes)
	d := r.Intn(l.World().Len())
	if id, e := l.World().ByName(from.Class); e == api.OK && r.Intn(3) == 0 {
		d = id
	}
	return newSubject(t, l, d, randomKind(r, from), from, pick(r, 0, 1, 2, 3, 4, 5, 8, 63, 64, r.Intn(65)))
}

func TestRandomSteps(t *testing.T) { // P19.1 to P19.8, P0.2, P0.3: all calls, while classes arrive between them
	for seed := range int64(60) {
		r := rand.New(rand.NewSource(seed))
		classes := randomClasses(t, seed, 26)
		w := worldOf(t, classes[3:3+r.Intn(20)]...)
		l := newLinker(t, w)
		var sites []subject
		for range 25 {
			sites = append(sites, randomSubject(t, r, l, classes))
		}
		for w.Len() < len(classes) || r.Intn(3) > 0 {
			for range 120 {
				pick(r, sites...).step(t, r)
			}
			if next := w.Len(); next < len(classes) {
				define(t, w, classes[next])
			}
			sites = append(sites, randomSubject(t, r, l, classes))
			if t.Failed() {
				t.Fatalf("seed %d", seed)
			}
		}
	}
}

// TestRandomStepsHaveAllKinds: without these the random steps would show little.
func TestRandomStepsHaveAllKinds(t *testing.T) {
	counts := map[string]int{}
	for seed := range int64(60) {
		r := rand.New(rand.NewSource(seed))
		classes := randomClasses(t, seed, 26)
		l := newLinker(t, worldOf(t, classes[3:]...))
		for range 60 {
			s := randomSubject(t, r, l, classes)
			for range 20 {
				_, e := s.second.call(s.randomReceiver(r))
				counts[fmt.Sprint(s.second.kind, " ", e)]++
			}
			m, e := s.second.resolve()
			if e == api.OK && l.World().IsIface(m.Class) {
				counts[fmt.Sprint(s.second.kind, " of an interface")]++
			}
		}
	}
	for kind, errs := range map[int][]api.Errno{
		api.Virtual:   {api.OK, api.ErrArg, api.ErrForm, api.NoClassDef, api.Malformed, api.NoSuchMethod, api.IllegalAccess, api.Incompatible, api.Abstract},
		api.Iface:     {api.OK, api.ErrArg, api.ErrForm, api.NoClassDef, api.Malformed, api.NoSuchMethod, api.IllegalAccess, api.Incompatible, api.Abstract},
		api.Special:   {api.OK, api.ErrArg, api.ErrForm, api.NoClassDef, api.NoSuchMethod, api.IllegalAccess, api.Incompatible, api.Abstract},
		api.StaticInv: {api.OK, api.NoClassDef, api.Malformed, api.NoSuchMethod, api.IllegalAccess, api.Incompatible},
	} {
		for _, e := range errs {
			if n := counts[fmt.Sprint(kind, " ", e)]; n < 50 {
				t.Errorf("kind %d answers %d but %d times", kind, e, n)
			}
		}
		if n := counts[fmt.Sprint(kind, " of an interface")]; n < 20 {
			t.Errorf("kind %d is resolved to an interface's method but %d times", kind, n)
		}
	}
}

func TestFullWorld(t *testing.T) { // P19.2, P19.4: as many classes as a world takes
	classes := randomClasses(t, 77, api.MaxClasses)
	l := newLinker(t, worldOf(t, classes[3:]...))
	r := rand.New(rand.NewSource(77))
	for range 60 {
		s := randomSubject(t, r, l, classes)
		for range 30 {
			s.call(t, s.randomReceiver(r))
		}
		s.link(t)
	}
}
