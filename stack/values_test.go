package stack

import (
	"testing"

	"arbiter/api"
)

func TestPutAndTakeAtEachRoom(t *testing.T) { // P21.4: until there is no more room, until there is none; a frame with no room among them
	for room := 0; room <= 40; room++ {
		for _, locals := range []int{0, 1, 40} {
			s := entered(t, locals, room)
			for range 2 {
				refusesTake(t, s, api.Malformed)
				for n := range room {
					put(t, s, api.Value{Ref: n%2 == 1, N: n})
				}
				refusesPut(t, s, api.Malformed, number(99))
				refusesPut(t, s, api.Malformed, api.Value{})
				counts(t, s, 1, locals+room+3, room)
				for n := room - 1; n >= 0; n-- {
					takes(t, s, api.Value{Ref: n%2 == 1, N: n})
					put(t, s, number(-n)) // the place that is free again
					takes(t, s, number(-n))
				}
				refusesTake(t, s, api.Malformed)
			}
			counts(t, s, 1, locals+room+3, 0)
		}
	}
}

func TestPutWithoutFrame(t *testing.T) { // P21.4: behind a frame that was left as well
	s := New()
	refusesPut(t, s, api.ErrNone, number(1))
	refusesTake(t, s, api.ErrNone)
	enter(t, s, 0, 1)
	put(t, s, number(1))
	leave(t, s)
	refusesPut(t, s, api.ErrNone, number(1))
	refusesTake(t, s, api.ErrNone)
	counts(t, s, 0, 0, 0)
}

func TestPeek(t *testing.T) { // P21.5: both edges and one beyond each
	s := New()
	for _, k := range append(oddNumbers(), 0, 1, 39, 40, 41) {
		refusesPeek(t, s, api.ErrNone, k)
	}
	for room := 0; room <= 40; room++ {
		s := entered(t, 3, room)
		for depth := 0; depth <= room; depth++ {
			for k := range depth {
				if v, e := s.Peek(k); v != ref(depth-1-k) || e != api.OK {
					t.Errorf("Peek(%d) of %d operands = %v, %d", k, depth, v, e)
				}
			}
			counts(t, s, 1, room+6, depth)
			for _, k := range append(oddNumbers(), depth, depth+1, 40, 41) {
				refusesPeek(t, s, api.Malformed, k)
			}
			if depth < room {
				put(t, s, ref(depth))
			}
		}
	}
}

func TestPeekBehindTake(t *testing.T) { // P21.4, P21.5: what was taken is not seen again
	s := entered(t, 0, 3)
	put(t, s, number(1), number(2), number(3))
	takes(t, s, number(3))
	refusesPeek(t, s, api.Malformed, 2)
	if v, e := s.Peek(1); v != number(1) || e != api.OK {
		t.Errorf("Peek(1) = %v, %d", v, e)
	}
	put(t, s, number(4))
	if v, e := s.Peek(2); v != number(1) || e != api.OK {
		t.Errorf("Peek(2) = %v, %d", v, e)
	}
	takes(t, s, number(4), number(2), number(1))
	refusesPeek(t, s, api.Malformed, 0)
	refusesPeek(t, s, api.Malformed, -1)
}

func TestLocals(t *testing.T) { // P21.6: both edges and one beyond each; a frame without locals among them
	s := New()
	for _, i := range append(oddNumbers(), 0, 1, 39, 40, 41) {
		refusesLocal(t, s, api.ErrNone, i)
	}
	for locals := 0; locals <= 40; locals++ {
		for _, room := range []int{0, 1, 40} {
			s := entered(t, locals, room)
			for i := range locals {
				hasLocal(t, s, i, number(0))
			}
			for i := range locals {
				sets(t, s, i, ref(i+1))
				for j := range locals { // the one alone
					if j <= i {
						hasLocal(t, s, j, ref(j+1))
					} else {
						hasLocal(t, s, j, number(0))
					}
				}
			}
			for _, i := range append(oddNumbers(), locals, locals+1, 41) {
				refusesLocal(t, s, api.ErrRange, i)
			}
			counts(t, s, 1, locals+room+3, 0)
		}
	}
}

func TestLocalsAreNoOperands(t *testing.T) { // P21.4, P21.6: neither turns the other
	s := entered(t, 2, 2)
	sets(t, s, 0, number(1))
	sets(t, s, 1, number(2))
	put(t, s, number(3), number(4))
	hasLocal(t, s, 0, number(1))
	hasLocal(t, s, 1, number(2))
	sets(t, s, 0, number(5))
	sets(t, s, 1, number(6))
	takes(t, s, number(4), number(3))
	hasLocal(t, s, 0, number(5))
	hasLocal(t, s, 1, number(6))
	refusesLocal(t, s, api.ErrRange, 2)
}

func TestValuesAreHeldAsHandedIn(t *testing.T) { // P21.4 to P21.6: ints and references of all sizes
	for _, v := range values() {
		s := entered(t, 1, 2)
		put(t, s, v, number(12))
		if got, e := s.Peek(1); got != v || e != api.OK {
			t.Errorf("Peek(1) = %v, %d, want %v", got, e, v)
		}
		takes(t, s, number(12), v)
		sets(t, s, 0, v)
		enter(t, s, 40, 40)
		leave(t, s)
		hasLocal(t, s, 0, v)
		sets(t, s, 0, number(0))
		hasLocal(t, s, 0, number(0))
	}
}

func TestFramesBelowStay(t *testing.T) { // P21.2: locals, operands and room of those below, whatever was done above
	s, same := New(), New()
	for n := range 20 {
		for _, x := range []*Stack{s, same} {
			enter(t, x, n, 20-n)
			for i := range n {
				sets(t, x, i, ref(100*n+i))
			}
			for k := range (20 - n) / 2 {
				put(t, x, number(-100*n-k))
			}
		}
	}
	words := s.Words()
	for _, size := range [][2]int{{0, 0}, {40, 40}, {1, 2}, {13, 0}, {0, 13}} {
		for s.Enter(size[0], size[1]) == api.OK {
			for i := range size[0] {
				s.SetLocal(i, ref(9999))
			}
			for s.Put(number(9999)) == api.OK {
			}
			s.Take()
		}
		for s.Frames() > 20 {
			leave(t, s)
		}
		if s.Words() != words {
			t.Errorf("%d words, want %d", s.Words(), words)
		}
	}
	if a, b := drain(s), drain(same); !samePictures(a, b) {
		t.Errorf("frames below are %v, want %v", a, b)
	}
}

func TestNewFramesAreBlank(t *testing.T) { // P21.2: int 0 in all locals and no operand, whatever stood in a frame that was left
	s := New()
	for n := range 3 {
		for locals := 0; locals <= 40; locals++ {
			for _, room := range []int{0, 1, 7, 40} {
				enter(t, s, locals, room) // which looks at all of them
				for i := range locals {
					sets(t, s, i, ref(n*1000+i))
				}
				for s.Put(ref(4)) == api.OK {
				}
				refusesPut(t, s, api.Malformed, ref(5))
				if n == 1 {
					s.Take()
				}
				leave(t, s)
			}
		}
		for locals := 40; locals >= 0; locals-- { // and behind larger ones, and above one that is there
			enter(t, s, 1, 1)
			put(t, s, ref(3))
			enter(t, s, locals, 40-locals)
			refusesTake(t, s, api.Malformed)
			leave(t, s)
			takes(t, s, ref(3))
			leave(t, s)
		}
	}
}

func TestGrowingFrames(t *testing.T) { // P21.2: frames that are many keep what stood in them when there were few
	s := New()
	for n := range 1000 {
		enter(t, s, n%2, (n+1)%2)
		if n%2 == 1 {
			sets(t, s, 0, number(n))
		} else {
			put(t, s, number(n))
		}
	}
	counts(t, s, 1000, 4000, 0)
	refusesEnter(t, s, api.StackOverflow, 0, 0)
	for n := 999; n >= 0; n-- {
		if n%2 == 1 {
			hasLocal(t, s, 0, number(n))
			refusesTake(t, s, api.Malformed)
			refusesPut(t, s, api.Malformed, number(1))
		} else {
			takes(t, s, number(n))
			refusesLocal(t, s, api.ErrRange, 0)
		}
		leave(t, s)
	}
	counts(t, s, 0, 0, 0)
}
