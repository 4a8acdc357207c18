package stack

import (
	"fmt"
	"math"
	"slices"
	"testing"

	"arbiter/api"
)

const (
	least    = math.MinInt
	greatest = math.MaxInt
)

// oddNumbers are beyond every size, on both sides.
func oddNumbers() []int {
	return []int{least, least + 1, math.MinInt32 - 1, math.MinInt32, -1 << 32, -256, -41, -40, -2, -1,
		greatest, greatest - 1, greatest - 2, greatest - 3, math.MaxInt32, math.MaxInt32 + 1, 1 << 32, 1<<32 + 1, 1<<32 + 40, 1 << 62, 256, 4000, 4001}
}

// values are ints and references of all sizes, sound and not.
func values() []api.Value {
	var out []api.Value
	for _, n := range append(oddNumbers(), 0, 1, 2, 39, 40, 41, 1000, 1001) {
		out = append(out, api.Value{N: n}, api.Value{Ref: true, N: n})
	}
	return out
}

func number(n int) api.Value {
	return api.Value{N: n}
}

func ref(n int) api.Value {
	return api.Value{Ref: true, N: n}
}

// picture is all that a stack answers, without a call that changes it.
type picture struct {
	frames, words, depth int
	operands, locals     []api.Value
}

func look(s *Stack) picture {
	p := picture{frames: s.Frames(), words: s.Words(), depth: s.Depth()}
	for k := 0; ; k++ {
		v, e := s.Peek(k)
		if e != api.OK {
			break
		}
		p.operands = append(p.operands, v)
	}
	for i := 0; ; i++ {
		v, e := s.Local(i)
		if e != api.OK {
			break
		}
		p.locals = append(p.locals, v)
	}
	return p
}

func (p picture) equal(q picture) bool {
	return p.frames == q.frames && p.words == q.words && p.depth == q.depth && slices.Equal(p.operands, q.operands) && slices.Equal(p.locals, q.locals)
}

// drain leaves all frames, and answers what was to be seen at each, from the top on. The words and the room that are free in each are told by the words and by what can still be put.
func drain(s *Stack) []picture {
	var out []picture
	for s.Frames() > 0 {
		p := look(s)
		for s.Put(number(7777)) == api.OK {
			p.operands = append(p.operands, number(7777))
		}
		out = append(out, p)
		s.Leave()
	}
	return append(out, look(s))
}

func samePictures(a, b []picture) bool {
	return slices.EqualFunc(a, b, picture.equal)
}

func enter(t *testing.T, s *Stack, locals, room int) {
	t.Helper()
	frames, words := s.Frames(), s.Words()
	if e := s.Enter(locals, room); e != api.OK {
		t.Fatalf("Enter(%d, %d) behind %d words = %d", locals, room, words, e)
	}
	want := picture{frames: frames + 1, words: words + locals + room + 3, locals: make([]api.Value, locals)}
	if got := look(s); !got.equal(want) {
		t.Fatalf("behind Enter(%d, %d): %v, want %v", locals, room, got, want)
	}
}

func leave(t *testing.T, s *Stack) {
	t.Helper()
	frames := s.Frames()
	if e := s.Leave(); e != api.OK || s.Frames() != frames-1 {
		t.Fatalf("Leave of %d frames = %d, and %d are left", frames, e, s.Frames())
	}
}

// refuses holds that a call answers e and changes nothing that can be seen.
func refuses(t *testing.T, s *Stack, what string, e api.Errno, call func() (api.Value, api.Errno)) {
	t.Helper()
	before := look(s)
	v, got := call()
	if v != (api.Value{}) || got != e {
		t.Errorf("%s = %v, %d, want no value, %d", what, v, got, e)
	}
	if after := look(s); !after.equal(before) {
		t.Errorf("%s, refused, turned %v into %v", what, before, after)
	}
}

func refusesEnter(t *testing.T, s *Stack, e api.Errno, locals, room int) {
	t.Helper()
	refuses(t, s, fmt.Sprintf("Enter(%d, %d)", locals, room), e, func() (api.Value, api.Errno) { return api.Value{}, s.Enter(locals, room) })
}

func refusesLeave(t *testing.T, s *Stack, e api.Errno) {
	t.Helper()
	refuses(t, s, "Leave", e, func() (api.Value, api.Errno) { return api.Value{}, s.Leave() })
}

func refusesPut(t *testing.T, s *Stack, e api.Errno, v api.Value) {
	t.Helper()
	refuses(t, s, fmt.Sprintf("Put(%v)", v), e, func() (api.Value, api.Errno) { return api.Value{}, s.Put(v) })
}

func refusesTake(t *testing.T, s *Stack, e api.Errno) {
	t.Helper()
	refuses(t, s, "Take", e, s.Take)
}

func refusesPeek(t *testing.T, s *Stack, e api.Errno, k int) {
	t.Helper()
	refuses(t, s, fmt.Sprintf("Peek(%d)", k), e, func() (api.Value, api.Errno) { return s.Peek(k) })
}

func refusesLocal(t *testing.T, s *Stack, e api.Errno, i int) {
	t.Helper()
	refuses(t, s, fmt.Sprintf("Local(%d)", i), e, func() (api.Value, api.Errno) { return s.Local(i) })
	refuses(t, s, fmt.Sprintf("SetLocal(%d, 8)", i), e, func() (api.Value, api.Errno) { return api.Value{}, s.SetLocal(i, number(8)) })
}

func put(t *testing.T, s *Stack, all ...api.Value) {
	t.Helper()
	for _, v := range all {
		depth := s.Depth()
		e := s.Put(v)
		if got, f := s.Peek(0); e != api.OK || f != api.OK || got != v || s.Depth() != depth+1 {
			t.Fatalf("Put(%v) = %d; the last of %d operands is %v, %d", v, e, s.Depth(), got, f)
		}
	}
}

func takes(t *testing.T, s *Stack, want ...api.Value) {
	t.Helper()
	for _, w := range want {
		depth := s.Depth()
		if v, e := s.Take(); v != w || e != api.OK || s.Depth() != depth-1 {
			t.Fatalf("Take = %v, %d, want %v; %d operands of %d are left", v, e, w, s.Depth(), depth)
		}
	}
}

func sets(t *testing.T, s *Stack, i int, v api.Value) {
	t.Helper()
	e := s.SetLocal(i, v)
	if got, f := s.Local(i); e != api.OK || f != api.OK || got != v {
		t.Fatalf("SetLocal(%d, %v) = %d; behind it Local is %v, %d", i, v, e, got, f)
	}
}

func hasLocal(t *testing.T, s *Stack, i int, want api.Value) {
	t.Helper()
	if v, e := s.Local(i); v != want || e != api.OK {
		t.Errorf("Local(%d) = %v, %d, want %v", i, v, e, want)
	}
}

func counts(t *testing.T, s *Stack, frames, words, depth int) {
	t.Helper()
	if s.Frames() != frames || s.Words() != words || s.Depth() != depth {
		t.Errorf("%d frames, %d words, %d operands; want %d, %d, %d", s.Frames(), s.Words(), s.Depth(), frames, words, depth)
	}
}

func TestNew(t *testing.T) { // P21.1
	s := New()
	if s == nil {
		t.Fatal("New answers nil")
	}
	counts(t, s, 0, 0, 0)
	for range 2 { // asking changes nothing
		refusesLeave(t, s, api.ErrNone)
		refusesPut(t, s, api.ErrNone, number(1))
		refusesTake(t, s, api.ErrNone)
		refusesPeek(t, s, api.ErrNone, 0)
		refusesLocal(t, s, api.ErrNone, 0)
	}
	if s == New() {
		t.Error("New answers one stack twice")
	}
	enter(t, s, 0, 0)
}

func TestExamples(t *testing.T) { // P21.1 to P21.6, the chapter's examples
	s := New()
	enter(t, s, 2, 1)
	counts(t, s, 1, 6, 0)
	put(t, s, number(5))
	refusesPut(t, s, api.Malformed, number(6))
	if v, e := s.Peek(0); v != number(5) || e != api.OK {
		t.Errorf("Peek(0) = %v, %d", v, e)
	}
	refusesPeek(t, s, api.Malformed, 1)
	takes(t, s, number(5))
	refusesTake(t, s, api.Malformed)
	hasLocal(t, s, 1, number(0))
	refusesLocal(t, s, api.ErrRange, 2)

	s = New()
	refusesEnter(t, s, api.ErrArg, 41, 0)
	refusesEnter(t, s, api.ErrArg, 0, 41)
	refusesEnter(t, s, api.ErrArg, -1, 0)
	refusesLeave(t, s, api.ErrNone)

	for n := range 48 {
		enter(t, s, 40, 40)
		counts(t, s, n+1, 83*(n+1), 0)
	}
	counts(t, s, 48, 3984, 0)
	refusesEnter(t, s, api.StackOverflow, 40, 40)
	enter(t, s, 13, 0)
	counts(t, s, 49, 4000, 0)
}

func TestEnterTakesAllSizes(t *testing.T) { // P21.2, P21.3: and as many frames of a size as there is room for
	for locals := 0; locals <= 40; locals++ {
		for room := 0; room <= 40; room++ {
			s := New()
			size := locals + room + 3
			for n := 1; n <= 4000/size; n++ {
				if e := s.Enter(locals, room); e != api.OK || s.Frames() != n || s.Words() != n*size {
					t.Fatalf("Enter(%d, %d) for the time %d = %d: %d frames, %d words", locals, room, n, e, s.Frames(), s.Words())
				}
			}
			refusesEnter(t, s, api.StackOverflow, locals, room)
			if rest := 4000 - s.Words(); rest >= 3 { // a smaller frame fits, if it takes just what is left, and one word more is too much
				half, other := (rest-3)/2, rest-3-(rest-3)/2
				refusesEnter(t, s, api.StackOverflow, half+1, other)
				refusesEnter(t, s, api.StackOverflow, other, half+1)
				enter(t, s, half, other)
				counts(t, s, 4000/size+1, 4000, 0)
			}
			if left := 4000 - s.Words(); left < 3 {
				refusesEnter(t, s, api.StackOverflow, 0, 0)
			}
		}
	}
}

func TestEnterRefusesSizes(t *testing.T) { // P21.2: one beyond each edge, and far beyond
	wrong := append(oddNumbers(), 41, 42, 80, 83)
	for _, s := range []*Stack{New(), entered(t, 2, 2), full(t)} {
		for _, n := range wrong {
			for _, fine := range []int{0, 1, 39, 40} {
				refusesEnter(t, s, api.ErrArg, n, fine)
				refusesEnter(t, s, api.ErrArg, fine, n)
			}
			for _, other := range wrong {
				refusesEnter(t, s, api.ErrArg, n, other)
			}
		}
	}
}

func TestEnterHasNoSumOfBothWrong(t *testing.T) { // P21.2: each of both is held against its own bound, not their sum
	s := New()
	for _, pair := range [][2]int{{-1, 1}, {1, -1}, {41, -1}, {-1, 41}, {least, greatest}, {greatest, least}, {greatest, greatest}, {least, least}, {-40, 40}, {80, -40}, {41, 41}} {
		refusesEnter(t, s, api.ErrArg, pair[0], pair[1])
	}
	counts(t, s, 0, 0, 0)
}

// entered is a stack of one frame.
func entered(t *testing.T, locals, room int) *Stack {
	t.Helper()
	s := New()
	enter(t, s, locals, room)
	return s
}

// full is a stack on which no frame has room.
func full(t *testing.T) *Stack {
	t.Helper()
	s := New()
	for range 48 {
		enter(t, s, 40, 40)
	}
	enter(t, s, 6, 7)
	counts(t, s, 49, 4000, 0)
	return s
}

func TestEnterBehindFramesThatWereLeft(t *testing.T) { // P21.2, P21.3: what a frame took is free again, no more and no less
	s := full(t)
	for range 3 {
		refusesEnter(t, s, api.StackOverflow, 0, 0)
		leave(t, s)
		counts(t, s, 48, 3984, 0)
		refusesEnter(t, s, api.StackOverflow, 14, 0)
		refusesEnter(t, s, api.StackOverflow, 0, 14)
		refusesEnter(t, s, api.StackOverflow, 7, 7)
		enter(t, s, 0, 13)
		counts(t, s, 49, 4000, 0)
	}
	leave(t, s)
	leave(t, s)
	counts(t, s, 47, 3901, 0)
	enter(t, s, 40, 40)
	refusesEnter(t, s, api.StackOverflow, 40, 40)
	for s.Frames() > 0 {
		leave(t, s)
	}
	counts(t, s, 0, 0, 0)
	for range 1333 {
		enter(t, s, 0, 0)
	}
	counts(t, s, 1333, 3999, 0)
	refusesEnter(t, s, api.StackOverflow, 0, 0)
	refusesEnter(t, s, api.StackOverflow, 0, 1)
	refusesEnter(t, s, api.StackOverflow, 1, 0)
	leave(t, s)
	enter(t, s, 1, 0)
	counts(t, s, 1333, 4000, 0)
}

func TestEnterLastFrameThatFits(t *testing.T) { // P21.2: at each number of words that are free
	for free := 0; free <= 90; free++ {
		s := New()
		for left := 4000 - free; left > 0; { // frames that leave just so many
			size := min(left, 83)
			if left > 83 && left < 86 {
				size = left - 3
			}
			enter(t, s, min(40, size-3), size-3-min(40, size-3))
			left -= size
		}
		if s.Words() != 4000-free {
			t.Fatalf("%d words", s.Words())
		}
		for locals := 0; locals <= 40; locals++ {
			for room := 0; room <= 40; room++ {
				if locals+room+3 > free {
					if e := s.Enter(locals, room); e != api.StackOverflow {
						t.Fatalf("Enter(%d, %d) with %d words free = %d", locals, room, free, e)
					}
					continue
				}
				if e := s.Enter(locals, room); e != api.OK {
					t.Fatalf("Enter(%d, %d) with %d words free = %d", locals, room, free, e)
				}
				leave(t, s)
			}
		}
		if s.Words() != 4000-free {
			t.Errorf("%d words, want %d", s.Words(), 4000-free)
		}
	}
}

func TestLeave(t *testing.T) { // P21.2: without a frame, of the last one, of one above others
	s := New()
	refusesLeave(t, s, api.ErrNone)
	enter(t, s, 1, 2)
	leave(t, s)
	counts(t, s, 0, 0, 0)
	refusesLeave(t, s, api.ErrNone)
	refusesLeave(t, s, api.ErrNone)
	enter(t, s, 1, 2)
	enter(t, s, 3, 4)
	enter(t, s, 5, 0)
	counts(t, s, 3, 24, 0)
	leave(t, s)
	counts(t, s, 2, 16, 0)
	leave(t, s)
	counts(t, s, 1, 6, 0)
	leave(t, s)
	refusesLeave(t, s, api.ErrNone)
	counts(t, s, 0, 0, 0)
}

func TestLeaveWithOperandsAndLocals(t *testing.T) { // P21.2, P21.3: they go with their frame, and its words are those it was entered with
	s := entered(t, 1, 1)
	put(t, s, number(3))
	enter(t, s, 2, 3)
	put(t, s, number(1), number(2), number(3))
	sets(t, s, 1, ref(9))
	counts(t, s, 2, 13, 3)
	leave(t, s)
	counts(t, s, 1, 5, 1)
	takes(t, s, number(3))
	leave(t, s)
	counts(t, s, 0, 0, 0)
}

func TestCountsAtEachStep(t *testing.T) { // P21.3: Words are those of the frames, whatever is put in them; Depth is that of the top frame alone
	s := New()
	enter(t, s, 0, 3)
	put(t, s, number(1), number(2))
	counts(t, s, 1, 6, 2)
	enter(t, s, 2, 1)
	counts(t, s, 2, 12, 0)
	put(t, s, ref(1))
	counts(t, s, 2, 12, 1)
	refusesPut(t, s, api.Malformed, ref(2))
	counts(t, s, 2, 12, 1)
	enter(t, s, 0, 0)
	counts(t, s, 3, 15, 0)
	refusesPut(t, s, api.Malformed, ref(2))
	refusesEnter(t, s, api.ErrArg, -1, 0)
	counts(t, s, 3, 15, 0)
	leave(t, s)
	counts(t, s, 2, 12, 1)
	takes(t, s, ref(1))
	counts(t, s, 2, 12, 0)
	leave(t, s)
	counts(t, s, 1, 6, 2)
	put(t, s, number(3))
	counts(t, s, 1, 6, 3)
	leave(t, s)
	counts(t, s, 0, 0, 0)
	refusesLeave(t, s, api.ErrNone)
	counts(t, s, 0, 0, 0)
}
