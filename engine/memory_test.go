package engine

import (
	"errors"
	"fmt"
	"reflect"
	"slices"
	"testing"

	"arbiter/api"
	"arbiter/hier"
)

// worldFacts is all that a world answers about its classes, as one value that may be compared.
func worldFacts(w *hier.World) []any {
	out := []any{w.Len()}
	for id := range w.Len() {
		c, _ := w.Class(id)
		super, e := w.Super(id)
		closure, _ := w.Closure(id)
		at, _ := w.ByName(c.Name)
		out = append(out, c, super, e, closure, at)
	}
	return out
}

func TestRunLeavesTheArgs(t *testing.T) { // R4: spare room included
	l := linkerOf(t, mainClasses(t)...)
	for _, spare := range []int{0, 7, -1, 1 << 40} { // what lies behind the list's length is no part of it, whatever it is
		for _, c := range []struct {
			text string
			args []int
			want api.Errno
		}{
			{"A.add(II)I", []int{3, 4}, api.OK}, {"A.f()I", nil, api.OK}, {"A.one(I)I", []int{3, 4}, api.ErrArg}, {"A.add(II)I", []int{3}, api.ErrArg}, {"A.one(I)I", []int{1 << 31}, api.ErrArg}, {"A.none(I)I", []int{3}, api.OK}, {"A.1(I)I", []int{3}, api.ErrForm},
		} {
			whole := append(slices.Clone(c.args), spare, spare, spare)
			before := slices.Clone(whole)
			s := newSubject(t, l, 1)
			if _, e := s.run(t, ref(c.text), whole[:len(c.args)], plenty); e != c.want {
				t.Errorf("Run(%s, %v) = %d, want %d", c.text, c.args, e, c.want)
			}
			if !slices.Equal(whole, before) {
				t.Errorf("Run(%s) turned %v into %v", c.text, before, whole)
			}
		}
	}
}

func TestRunKeepsNoArgs(t *testing.T) { // R4: they may be written over behind the call
	// The method turns its locals, which the list does not follow.
	l := linkerOf(t, class("A", "Object", method(t, "f(II)I", static, "iload 0, iload 1, iadd, istore 0, iconst 9, istore 1, iload 0, ireturn")))
	s := newSubject(t, l, 1)
	args := []int{3, 4}
	s.says(t, "A.f(II)I", args, plenty, "7 spent 8")
	if !slices.Equal(args, []int{3, 4}) {
		t.Errorf("args are now %v", args)
	}
	args[0], args[1] = 100, 200
	s.says(t, "A.f(II)I", []int{1, 2}, plenty, "3 spent 8")
	s.says(t, "A.f(II)I", args, plenty, "300 spent 8")
}

func TestNilAndEmptyArgs(t *testing.T) { // R3: the same thing
	l := linkerOf(t, mainClasses(t)...)
	for _, args := range [][]int{nil, {}, make([]int, 0, 5)} {
		s := newSubject(t, l, 1)
		s.says(t, "A.f()I", args, plenty, "5 spent 2")
		s.refuses(t, ref("A.one(I)I"), args, plenty, api.ErrArg)
	}
}

func TestCountsAnswersNewMemory(t *testing.T) { // R4
	s := newSubject(t, linkerOf(t, class("A", "Object", method(t, "f()V", static, "invokestatic A.g()V, return"), method(t, "g()V", static, "return"))), 1)
	s.says(t, "A.f()V", nil, plenty, "returned spent 3")
	first, second := s.Counts(), s.Counts()
	for at := range first {
		first[at] = -9
	}
	_ = append(first[:2], -9, -9, -9)
	if !slices.Equal(second, []int{0, 0, 0, 1}) {
		t.Errorf("writing over one answer turned another into %v", second)
	}
	s.counted(t, 0, 0, 0, 1)
	s.says(t, "A.f()V", nil, plenty, "returned spent 3")
	s.counted(t, 0, 0, 0, 2)
	if !slices.Equal(second, []int{0, 0, 0, 1}) {
		t.Errorf("a later run turned an answer into %v", second)
	}
}

func TestRefusedRunsLeaveNothing(t *testing.T) { // R5
	l := linkerOf(t, mainClasses(t)...)
	s := newSubject(t, l, 1)
	for _, main := range []api.Ref{{}, ref("A.f"), ref("A.one(I)I"), ref("A.of(LA;)I")} {
		s.Run(main, nil, plenty)
	}
	s.counted(t, 0, 0, 0, 0)
	if s.Reads() != 0 || len(s.sites) != 0 || l.Builds() != 0 {
		t.Errorf("Reads() = %d, %d sites, %d builds", s.Reads(), len(s.sites), l.Builds())
	}
}

func TestTheWorldStaysAsItWas(t *testing.T) { // R4
	l := linkerOf(t, append(cityClasses(t), mainOf(t, "new B, invokevirtual A.m()I, print, new N, invokeinterface I:d()I, print, return"))...)
	before := worldFacts(l.World())
	for _, capacity := range capacities {
		newSubject(t, l, capacity).says(t, "Main.f()V", nil, plenty, "2 21 returned spent 11")
	}
	if !reflect.DeepEqual(worldFacts(l.World()), before) {
		t.Errorf("the runs have turned the world")
	}
	id := define(t, l.World(), class("Later", "A"))
	if id != len(before)/5 {
		t.Errorf("Define = %d", id)
	}
}

func TestSameQuestionsSameAnswers(t *testing.T) { // R8
	for _, c := range []struct {
		text string
		args []int
	}{{"A.add(II)I", []int{1, 2}}, {"A.f()I", nil}, {"A.none()I", nil}, {"B.hidden()I", nil}} {
		l := linkerOf(t, mainClasses(t)...)
		s := newSubject(t, l, 2)
		first, _ := s.run(t, ref(c.text), c.args, plenty)
		for range 5 {
			if again, _ := s.run(t, ref(c.text), c.args, plenty); again != first {
				t.Errorf("Run(%s) = %s, and then %s", c.text, said(first), said(again))
			}
		}
	}
}

// TestCaught: what is thrown ends the work, and nothing else goes further up.
func TestCaught(t *testing.T) { // P0.1
	for _, c := range []struct {
		work func()
		want api.Errno
	}{
		{func() {}, api.OK},
		{func() { throw(api.Arithmetic) }, api.Arithmetic},
		{func() { check(api.OK) }, api.OK},
		{func() { check(api.NoClassDef) }, api.NoClassDef},
		{func() { orThrow(5, api.FuelSpent) }, api.FuelSpent},
		{func() { throwIf(false, api.OutFull) }, api.OK},
		{func() { throwIf(true, api.OutFull) }, api.OutFull},
		{func() { panic("a text") }, api.Malformed},
		{func() { panic(errors.New("an error")) }, api.Malformed},
		{func() { panic(api.OutFull) }, api.Malformed},
		{func() { var r *run; r.step() }, api.Malformed},
	} {
		if got := caught(c.work); got != c.want {
			t.Errorf("caught = %s, want %s", word(got), word(c.want))
		}
	}
	if got := orThrow("kept", api.OK); got != "kept" {
		t.Errorf("orThrow = %s", got)
	}
}

// TestUnknownInstruction: none arrives in a class, and none panics.
func TestUnknownInstruction(t *testing.T) { // P0.1
	r, _ := newRun(newEngine(t, linkerOf(t), 0), plenty)
	for _, op := range []int{0, -1, 41, 1 << 40} {
		if got := caught(func() { r.do(api.Inst{Op: op}) }); got != api.Malformed {
			t.Errorf("%s", fmt.Sprint(op, ": ", word(got)))
		}
	}
}
