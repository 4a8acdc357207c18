package stack

import (
	"fmt"
	"math/rand"
	"testing"

	"arbiter/api"
)

// told is the chapter told a second time: one tape of 4000 words with a mark where it ends. A frame is its locals, its room, and three words that say how many there are of each and how many operands stand in the room; frames are counted by going down from mark to mark.
type told struct {
	tape [4000]api.Value
	end  int
}

func (x *told) head() (locals, room, depth int) {
	return x.tape[x.end-3].N, x.tape[x.end-2].N, x.tape[x.end-1].N
}

func (x *told) enter(locals, room int) api.Errno {
	if locals != min(max(locals, 0), 40) || room != min(max(room, 0), 40) {
		return api.ErrArg
	}
	end := x.end + locals + room + 3
	if end > len(x.tape) {
		return api.StackOverflow
	}
	clear(x.tape[x.end:end])
	x.tape[end-3].N, x.tape[end-2].N = locals, room
	x.end = end
	return api.OK
}

func (x *told) leave() api.Errno {
	if x.end == 0 {
		return api.ErrNone
	}
	locals, room, _ := x.head()
	x.end -= locals + room + 3
	return api.OK
}

func (x *told) frames() int {
	copied := *x
	n := 0
	for copied.leave() == api.OK {
		n++
	}
	return n
}

func (x *told) depth() int {
	if x.end == 0 {
		return 0
	}
	_, _, depth := x.head()
	return depth
}

// operand answers the place of the one that was put at that time, if the room has such a place.
func (x *told) operand(n int) *api.Value {
	_, room, _ := x.head()
	if n < 0 || n >= room {
		return nil
	}
	return &x.tape[x.end-3-room+n]
}

func (x *told) put(v api.Value) api.Errno {
	if x.end == 0 {
		return api.ErrNone
	}
	place := x.operand(x.depth())
	if place == nil {
		return api.Malformed
	}
	*place = v
	x.tape[x.end-1].N++
	return api.OK
}

func (x *told) peek(k int) (api.Value, api.Errno) {
	switch {
	case x.end == 0:
		return api.Value{}, api.ErrNone
	case k < 0 || k > 40 || x.depth()-k < 1:
		return api.Value{}, api.Malformed
	}
	return *x.operand(x.depth() - k - 1), api.OK
}

func (x *told) take() (api.Value, api.Errno) {
	v, e := x.peek(0)
	if e == api.OK {
		x.tape[x.end-1].N--
	}
	return v, e
}

func (x *told) local(i int) (*api.Value, api.Errno) {
	if x.end == 0 {
		return nil, api.ErrNone
	}
	locals, room, _ := x.head()
	for at := range locals {
		if at == i {
			return &x.tape[x.end-3-room-locals+at], api.OK
		}
	}
	return nil, api.ErrRange
}

// step is one call, by its name and its arguments.
type step struct {
	call string
	a, b int
	v    api.Value
}

// outcome is what a call answers; n is of the counts.
type outcome struct {
	v api.Value
	e api.Errno
	n int
}

func (x *told) do(c step) outcome {
	var o outcome
	switch c.call {
	case "Enter":
		o.e = x.enter(c.a, c.b)
	case "Leave":
		o.e = x.leave()
	case "Put":
		o.e = x.put(c.v)
	case "Take":
		o.v, o.e = x.take()
	case "Peek":
		o.v, o.e = x.peek(c.a)
	case "Local":
		var place *api.Value
		if place, o.e = x.local(c.a); place != nil {
			o.v = *place
		}
	case "SetLocal":
		var place *api.Value
		if place, o.e = x.local(c.a); place != nil {
			*place = c.v
		}
	case "Frames":
		o.n = x.frames()
	case "Words":
		o.n = x.end
	case "Depth":
		o.n = x.depth()
	}
	return o
}

func do(s *Stack, c step) outcome {
	var o outcome
	switch c.call {
	case "Enter":
		o.e = s.Enter(c.a, c.b)
	case "Leave":
		o.e = s.Leave()
	case "Put":
		o.e = s.Put(c.v)
	case "Take":
		o.v, o.e = s.Take()
	case "Peek":
		o.v, o.e = s.Peek(c.a)
	case "Local":
		o.v, o.e = s.Local(c.a)
	case "SetLocal":
		o.e = s.SetLocal(c.a, c.v)
	case "Frames":
		o.n = s.Frames()
	case "Words":
		o.n = s.Words()
	case "Depth":
		o.n = s.Depth()
	}
	return o
}

// same holds one call, and behind it the counts, against the second telling.
func same(t *testing.T, s *Stack, x *told, c step) outcome {
	t.Helper()
	got, want := do(s, c), x.do(c)
	if got != want {
		t.Fatalf("%v = %v, want %v", c, got, want)
	}
	for _, count := range []string{"Words", "Depth"} {
		if n, m := do(s, step{call: count}), x.do(step{call: count}); n != m {
			t.Fatalf("behind %v: %s = %v, want %v", c, count, n, m)
		}
	}
	return got
}

// sameDown goes down both to the last frame, and holds all that stands in them against each other.
func sameDown(t *testing.T, s *Stack, x *told) {
	t.Helper()
	for {
		same(t, s, x, step{call: "Frames"})
		for n := -1; n <= 41; n++ {
			same(t, s, x, step{call: "Peek", a: n})
			same(t, s, x, step{call: "Local", a: n})
		}
		for same(t, s, x, step{call: "Put", v: ref(5)}).e == api.OK {
		}
		if same(t, s, x, step{call: "Leave"}).e != api.OK {
			return
		}
	}
}

// phase says how often which calls are drawn, and how large frames are.
type phase struct {
	calls  string // one letter a call
	sizes  []int
	places []int
}

func phases() []phase {
	odd := oddNumbers()
	return []phase{
		{"EEEEEPPPTLSSLKKFWDX", []int{0, 1, 2, 3}, []int{0, 1, 2, 3, -1}},
		{"EEXXPPPPTTTSSSLLLKKKFWD", []int{0, 0, 1, 2, 5}, []int{0, 1, 2, 4, 5}},
		{"EEEEEEEEXPPPSSLKT", []int{40, 40, 39, 38, 0, 13}, []int{0, 39, 40, 38, 41}},
		{"XXXXXXEPTSLKFWD", []int{0, 40}, []int{0, 1, 12}},
		{"EEEXXPPPTTSSLLKKFWD", append(odd, 0, 1, 40, 41), append(odd, 0, 1, 40)},
		{"EEEEEEEEEEEEEEEEEEEEEEEEX", []int{0, 40, 40, 40, 17}, []int{0}},
		{"EXXPPPPPPPPPTTTTTSSSLLLKKK", []int{4, 7, 40}, []int{0, 1, 2, 3, 4, 5, 6, 7, 20, 39}},
	}
}

func names() map[byte]string {
	return map[byte]string{'E': "Enter", 'X': "Leave", 'P': "Put", 'T': "Take", 'K': "Peek", 'L': "Local", 'S': "SetLocal", 'F': "Frames", 'W': "Words", 'D': "Depth"}
}

func (p phase) draw(r *rand.Rand, stamp int) step {
	pick := func(from []int) int { return from[r.Intn(len(from))] }
	c := step{call: names()[p.calls[r.Intn(len(p.calls))]]}
	switch c.call {
	case "Enter":
		c.a, c.b = pick(p.sizes), pick(p.sizes)
		if r.Intn(20) == 0 {
			c.a, c.b = r.Intn(43)-1, r.Intn(43)-1
		}
	case "Peek", "Local", "SetLocal":
		c.a = pick(p.places)
	}
	if c.call == "Put" || c.call == "SetLocal" {
		all := values()
		c.v = all[r.Intn(len(all))]
		if r.Intn(2) == 0 {
			c.v = api.Value{Ref: r.Intn(2) == 0, N: stamp} // found nowhere else
		}
	}
	return c
}

func TestRandomRuns(t *testing.T) { // P21.2 to P21.6
	met := map[string]int{}
	for seed := range 60 {
		r := rand.New(rand.NewSource(int64(seed)))
		s, x := New(), &told{}
		p := phases()[seed%len(phases())]
		for n := range 3000 {
			if r.Intn(150) == 0 {
				p = phases()[r.Intn(len(phases()))]
			}
			c := p.draw(r, n)
			o := same(t, s, x, c)
			met[fmt.Sprint(c.call, " ", int(o.e))]++
		}
		sameDown(t, s, x)
	}
	for _, want := range []string{"Enter 0", "Enter 2", "Enter 33", "Leave 0", "Leave 6", "Put 0", "Put 6", "Put 35", "Take 0", "Take 6", "Take 35", "Peek 0", "Peek 6", "Peek 35",
		"Local 0", "Local 3", "Local 6", "SetLocal 0", "SetLocal 3", "SetLocal 6", "Frames 0", "Words 0", "Depth 0"} {
		if met[want] < 50 {
			t.Errorf("the runs met %s %d times", want, met[want])
		}
		delete(met, want)
	}
	if len(met) > 0 {
		t.Errorf("the runs met %v", met)
	}
}

func TestAllShortRuns(t *testing.T) { // P21.2 to P21.6: each sequence of seven calls
	calls := []step{{call: "Enter", a: 1, b: 1}, {call: "Enter", a: 0, b: 2}, {call: "Leave"}, {call: "Put"}, {call: "Take"}, {call: "SetLocal"}}
	total := 1
	for range 7 {
		total *= len(calls)
	}
	for number := range total {
		s, x := New(), &told{}
		rest := number
		for n := range 7 {
			c := calls[rest%len(calls)]
			rest /= len(calls)
			c.v = ref(n + 1)
			if got, want := do(s, c), x.do(c); got != want {
				t.Fatalf("run %d: %v = %v, want %v", number, c, got, want)
			}
		}
		if s.Words() != x.end || s.Depth() != x.depth() {
			t.Fatalf("run %d: %d words, %d operands; want %d, %d", number, s.Words(), s.Depth(), x.end, x.depth())
		}
		if number%37 == 0 {
			sameDown(t, s, x)
		}
	}
}

func TestTwoRandomStacks(t *testing.T) { // P21.1: each as if it were alone
	for seed := range 20 {
		r := rand.New(rand.NewSource(int64(1000 + seed)))
		stacks, tapes := []*Stack{New(), New(), New()}, []*told{{}, {}, {}}
		for n := range 2000 {
			one := r.Intn(len(stacks))
			same(t, stacks[one], tapes[one], phases()[r.Intn(len(phases()))].draw(r, n))
		}
		for one := range stacks {
			sameDown(t, stacks[one], tapes[one])
		}
	}
}
