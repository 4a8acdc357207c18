package site

import (
	"reflect"
	"slices"
	"testing"

	"arbiter/api"
	"arbiter/hier"
)

// worldFacts is all that a world answers about its classes, as one value that may be compared.
func worldFacts(w *hier.World) []any {
	out := []any{w.Len()}
	for id := range w.Len() {
		c, _ := w.Class(id)
		super, e := w.Super(id)
		chain, _ := w.Chain(id)
		closure, _ := w.Closure(id)
		at, _ := w.ByName(c.Name)
		out = append(out, c, super, e, chain, closure, at)
	}
	return out
}

// writeOver writes over a list as far as its memory goes, and grows it.
func writeOver[T any](list []T, odd T) {
	whole := list[:cap(list)]
	for place := range whole {
		whole[place] = odd
	}
	_ = append(list[:len(list)/2], odd, odd, odd)
	_ = append(list, odd)
}

var oddMethod, oddType = api.MethodID{Class: -7, Index: -8}, api.Type{Dims: -7, Name: "odd"}

func TestCallsAnswerNewMemory(t *testing.T) { // R4: each of both lists
	l := city(t)
	list := []api.Type{typ("A"), typ("B"), typ("int"), typ("N"), typ("Object"), typ("A")}
	for _, capacity := range capacities {
		s := site(t, l, "q/X", api.Virtual, "A.m()V", capacity)
		for _, n := range []int{0, 1, 3, len(list)} {
			for _, workers := range []int{1, 2, 16} {
				kept, keptErrs, _ := s.Calls(list[:n], workers)
				want, wantErrs, _ := s.second.calls(list[:n], workers)
				got, errs, _ := s.Calls(list[:n], workers)
				writeOver(got, oddMethod)
				if !slices.Equal(errs, wantErrs) {
					t.Errorf("writing over the methods turned the errors into %v", errs)
				}
				again, errs, _ := s.Calls(list[:n], workers)
				writeOver(errs, -1)
				if !slices.Equal(again, want) {
					t.Errorf("writing over the errors turned the methods into %v", again)
				}
				if !slices.Equal(kept, want) || !slices.Equal(keptErrs, wantErrs) {
					t.Errorf("writing over one answer turned another into %v, %v", kept, keptErrs)
				}
				s.calls(t, list[:n], workers)
				for _, recv := range list {
					s.call(t, recv)
				}
			}
		}
	}
}

func TestCallsStayAsTheyWere(t *testing.T) { // R4: what later calls and classes do turns no earlier answer
	l := city(t)
	s := site(t, l, "q/X", api.Virtual, "A.m()V", 2)
	list := []api.Type{typ("A"), typ("Late"), typ("B"), typ("int")}
	first, firstErrs, _ := s.Calls(list, 2)
	define(t, l.World(), class("Late", "B"))
	second, secondErrs, _ := s.Calls(list, 2)
	s.calls(t, []api.Type{typ("N"), typ("N"), typ("N"), typ("N")}, 2)
	a, b := find(t, l, "A.m()V"), find(t, l, "B.m()V")
	if !slices.Equal(first, []api.MethodID{a, {}, b, {}}) || !slices.Equal(firstErrs, []api.Errno{0, api.NoClassDef, 0, api.ErrArg}) {
		t.Errorf("the first answer is now %v, %v", first, firstErrs)
	}
	if !slices.Equal(second, []api.MethodID{a, b, b, {}}) || !slices.Equal(secondErrs, []api.Errno{0, 0, 0, api.ErrArg}) {
		t.Errorf("the second answer is %v, %v", second, secondErrs)
	}
}

func TestCallsLeaveTheList(t *testing.T) { // R4: spare room included
	l := city(t)
	for _, spare := range []api.Type{{}, typ("B"), typ("no/Such"), oddType} { // what lies behind the list's length is no part of it, whatever it is
		for _, workers := range []int{1, 2, 5, 16} {
			whole := append([]api.Type{typ("A"), typ("C"), typ("int"), typ("[A"), typ("C")}, slices.Repeat([]api.Type{spare}, 20)...)
			before := slices.Clone(whole)
			s := site(t, l, "q/X", api.Virtual, "A.m()V", 3)
			s.calls(t, whole[:0], workers)
			s.isResolved(t, false)
			s.calls(t, whole[:5], workers)
			s.calls(t, whole[:5], 0)
			s.calls(t, whole[:5], 17)
			if !slices.Equal(whole, before) {
				t.Errorf("Calls turned %v into %v", before, whole)
			}
		}
	}
	whole := slices.Repeat([]api.Type{typ("N")}, 5000)
	s := site(t, l, "q/X", api.Virtual, "A.m()V", 3)
	s.calls(t, whole, 16)
	s.calls(t, whole[:4096], 16)
	if slices.ContainsFunc(whole, func(recv api.Type) bool { return recv != typ("N") }) {
		t.Errorf("Calls turned a long list")
	}
}

func TestCallsKeepNoList(t *testing.T) { // R4: it may be written over behind the call
	l := city(t)
	for _, capacity := range capacities {
		s := site(t, l, "q/X", api.Virtual, "A.m()V", capacity)
		list := []api.Type{typ("A"), typ("B"), typ("C")}
		got, errs, _ := s.Calls(list, 2)
		writeOver(list, oddType)
		if want := []api.MethodID{find(t, l, "A.m()V"), find(t, l, "B.m()V"), find(t, l, "C.m()V")}; !slices.Equal(got, want) || !slices.Equal(errs, []api.Errno{0, 0, 0}) {
			t.Errorf("writing over the list turned the answer into %v, %v", got, errs)
		}
		for _, recv := range []string{"A", "B", "C", "A"} {
			s.call(t, typ(recv))
		}
	}
}

func TestTheWorldStaysAsItWas(t *testing.T) { // R4, R5
	classes := randomClasses(t, 5, 18)
	w := worldOf(t, classes[3:]...)
	before := worldFacts(w)
	l := newLinker(t, w)
	for _, c := range classes {
		for _, m := range c.Methods {
			for _, kind := range allKinds {
				from := api.Ref{Iface: c.Flags&api.Interface != 0, Class: c.Name, Name: m.Name, Desc: m.Desc}
				s := newSubject(t, l, w.Len()-1, kind, from, 2)
				s.calls(t, receivers(w), 3)
				for _, recv := range receivers(w) {
					s.call(t, recv)
				}
				s.link(t)
			}
		}
	}
	if !reflect.DeepEqual(worldFacts(w), before) {
		t.Errorf("the calls have turned the world")
	}
	if id, e := w.Define(class("Later", "Object")); id != len(classes) || e != api.OK {
		t.Errorf("Define = %d, %d", id, e)
	}
}

// TestRefusedCallsLeaveNothing: what is refused ahead of all looking up leaves no trace of itself.
func TestRefusedCallsLeaveNothing(t *testing.T) { // R5
	l := city(t)
	for _, capacity := range capacities {
		for _, c := range []struct {
			kind       int
			text, recv string
		}{{api.Virtual, "A.m()V", "int"}, {api.Virtual, "A.m()V", "no/Such"}, {api.Iface, "I:m()V", "K"}, {api.Special, "A.m()V", "[1"}, {api.Virtual, "A:m()V", "A"}, {api.StaticInv, "A.<init>()V", "A"}, {api.Virtual, "A.none()V", "A"}, {api.Virtual, "no/Such.m()V", "A"}, {api.Virtual, "A.p()V", "A"}} {
			s := site(t, l, "q/X", c.kind, c.text, capacity)
			for range 2 {
				if _, e := s.call(t, typ(c.recv)); e == api.OK {
					t.Errorf("%s: Call(%s) is not refused", s.about(), c.recv)
				}
			}
			s.isResolved(t, false)
			s.hitsAre(t, 0, 0)
			if s.Reads() != 0 {
				t.Errorf("%s: %d words are read", s.about(), s.Reads())
			}
		}
	}
	// A receiver that is not below what is named has no tables built for it either.
	site(t, l, "q/X", api.Virtual, "A.m()V", 1).runs(t, "Object", "", api.Incompatible)
	site(t, l, "q/X", api.Iface, "I:m()V", 1).runs(t, "A", "", api.Incompatible)
	if l.Builds() != 0 {
		t.Errorf("calls that are refused had %d classes built", l.Builds())
	}
}

func TestLaterClassesTurnNothing(t *testing.T) { // P0.3: of what has been answered only what was not there
	classes := randomClasses(t, 9, 30)
	w := worldOf(t, classes[3:15]...)
	l := newLinker(t, w)
	type asked struct {
		subject
		recv   api.Type
		method api.MethodID
		err    api.Errno
	}
	var all []asked
	for _, c := range classes {
		for _, m := range c.Methods {
			from := api.Ref{Iface: c.Flags&api.Interface != 0, Class: c.Name, Name: m.Name, Desc: m.Desc}
			s := newSubject(t, l, w.Len()-1, api.Virtual, from, 3)
			if from.Iface {
				s = newSubject(t, l, w.Len()-1, api.Iface, from, 3)
			}
			for _, recv := range receivers(w) {
				one := asked{subject: s, recv: recv}
				one.method, one.err = s.call(t, recv)
				all = append(all, one)
			}
		}
	}
	for _, c := range classes[15:] {
		define(t, w, c)
	}
	for _, one := range all {
		m, e := one.call(t, one.recv)
		if one.err != api.NoClassDef && (m != one.method || e != one.err) {
			t.Errorf("%s: Call(%s) was %v, %d and is %v, %d", one.about(), show(one.recv), one.method, one.err, m, e)
		}
	}
}
