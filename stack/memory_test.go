package stack

import (
	"testing"

	"arbiter/api"
)

func TestNil(t *testing.T) { // P21.2 to P21.6, R6: ErrArg is looked for ahead of all else; 0 of the counts
	var s *Stack
	counts(t, s, 0, 0, 0)
	refusesLeave(t, s, api.ErrArg)
	refusesTake(t, s, api.ErrArg)
	for _, v := range values() {
		refusesPut(t, s, api.ErrArg, v)
	}
	for _, n := range append(oddNumbers(), 0, 1, 39, 40, 41) {
		refusesEnter(t, s, api.ErrArg, n, 1)
		refusesEnter(t, s, api.ErrArg, 1, n)
		refusesPeek(t, s, api.ErrArg, n)
		refusesLocal(t, s, api.ErrArg, n)
	}
	counts(t, s, 0, 0, 0)
}

func TestOrderOfErrors(t *testing.T) { // P21.2, P21.4 to P21.6, R2: the one that is named first
	s := full(t)
	refusesEnter(t, s, api.ErrArg, 41, 40) // no room for it as well
	refusesEnter(t, s, api.ErrArg, 40, 41)
	refusesEnter(t, s, api.ErrArg, -1, 0)
	refusesEnter(t, s, api.ErrArg, 0, -1)
	refusesEnter(t, s, api.StackOverflow, 0, 0)
	s = New()
	refusesPeek(t, s, api.ErrNone, -1)
	refusesPeek(t, s, api.ErrNone, 0)
	refusesLocal(t, s, api.ErrNone, -1)
	refusesLocal(t, s, api.ErrNone, 0)
	refusesPut(t, s, api.ErrNone, number(greatest))
	refusesTake(t, s, api.ErrNone)
}

func TestRefusedCallsChangeNothing(t *testing.T) { // R5: in frames below as well, and in the room that is left
	build := func() *Stack {
		s := New()
		for n := range 30 {
			enter(t, s, n%4, n%3)
			for i := range n % 4 {
				sets(t, s, i, number(n))
			}
			if n%3 == 2 {
				put(t, s, ref(n), number(n))
			}
			if n%3 == 1 && n%2 == 1 {
				put(t, s, ref(n))
			}
		}
		return s
	}
	for _, size := range [][2]int{{0, 0}, {2, 0}, {0, 2}, {3, 1}} {
		plain, tried := build(), build()
		for _, s := range []*Stack{plain, tried} {
			enter(t, s, size[0], size[1])
			for n := range size[1] {
				put(t, s, number(n))
			}
		}
		for range 3 {
			refusesPut(t, tried, api.Malformed, ref(77))
			for _, n := range append(oddNumbers(), 40, 41) {
				refusesEnter(t, tried, api.ErrArg, n-41, 41)
				refusesPeek(t, tried, api.Malformed, n)
				refusesLocal(t, tried, api.ErrRange, n)
			}
			if size[1] == 0 {
				refusesTake(t, tried, api.Malformed)
			}
		}
		if a, b := drain(tried), drain(plain); !samePictures(a, b) {
			t.Errorf("refused calls turned %v into %v", b, a)
		}
	}
}

func TestRefusedOverflowChangesNothing(t *testing.T) { // R5
	plain, tried := full(t), full(t)
	for range 100 {
		refusesEnter(t, tried, api.StackOverflow, 40, 40)
		refusesEnter(t, tried, api.StackOverflow, 0, 0)
	}
	for _, s := range []*Stack{plain, tried} {
		leave(t, s)
		enter(t, s, 13, 0)
		refusesEnter(t, s, api.StackOverflow, 0, 0)
	}
	if a, b := drain(tried), drain(plain); !samePictures(a, b) {
		t.Errorf("refused calls turned %v into %v", b, a)
	}
}

func TestTwoStacks(t *testing.T) { // P21.1: what is done to one turns nothing of the other
	a, b := New(), New()
	enter(t, a, 2, 2)
	counts(t, b, 0, 0, 0)
	refusesTake(t, b, api.ErrNone)
	enter(t, b, 2, 2)
	put(t, a, number(1))
	sets(t, a, 0, number(2))
	counts(t, b, 1, 7, 0)
	hasLocal(t, b, 0, number(0))
	put(t, b, number(3), number(4))
	sets(t, b, 0, number(5))
	sets(t, b, 1, number(6))
	before := look(b)
	for a.Enter(40, 40) == api.OK {
		for a.Put(ref(8)) == api.OK {
		}
		a.SetLocal(0, ref(9))
	}
	if !look(b).equal(before) {
		t.Errorf("one stack turned the other: %v, want %v", look(b), before)
	}
	for a.Frames() > 1 {
		leave(t, a)
	}
	takes(t, a, number(1))
	hasLocal(t, a, 0, number(2))
	hasLocal(t, a, 1, number(0))
	leave(t, a)
	if !look(b).equal(before) {
		t.Errorf("one stack turned the other: %v, want %v", look(b), before)
	}
	for range 48 { // a full stack takes no room from the other
		enter(t, a, 40, 40)
	}
	for range 47 {
		enter(t, b, 40, 40)
	}
	enter(t, b, 40, 40)
	refusesEnter(t, b, api.StackOverflow, 40, 40)
}

func TestStackThatNewDidNotMake(t *testing.T) { // P0.1: no call on it panics
	var s Stack
	counts(t, &s, 0, 0, 0)
	refusesLeave(t, &s, api.ErrNone)
	enter(t, &s, 1, 1)
	put(t, &s, number(1))
	takes(t, &s, number(1))
	leave(t, &s)
	refusesTake(t, &s, api.ErrNone)
}
