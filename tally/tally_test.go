package tally

import (
	"math"
	"slices"
	"testing"

	"arbiter/api"
)

// oddNumbers are numbers of no counter of any tally.
var oddNumbers = []int{-1, -2, api.MaxCounters, api.MaxCounters + 1, math.MinInt, math.MaxInt, math.MinInt32, math.MaxInt32, 1 << 32, -1 << 32, 1<<32 + 1}

func newTally(t *testing.T, n int) *Tally {
	t.Helper()
	x, e := New(n)
	if x == nil || e != api.OK {
		t.Fatalf("New(%d) = %v, %d", n, x, e)
	}
	return x
}

// tallyOf has a counter for each number, which stands at it.
func tallyOf(t *testing.T, numbers ...int) *Tally {
	t.Helper()
	x := newTally(t, len(numbers))
	for k, n := range numbers {
		added(t, x, k, n, n)
	}
	return x
}

// holds asks for all numbers, by All and one by one.
func holds(t *testing.T, x *Tally, want ...int) {
	t.Helper()
	if got := x.All(); !slices.Equal(got, want) {
		t.Errorf("All() = %v, want %v", got, want)
	}
	for k, n := range want {
		if got, e := x.Read(k); got != n || e != api.OK {
			t.Errorf("Read(%d) = %d, %d, want %d", k, got, e, n)
		}
	}
}

func added(t *testing.T, x *Tally, k, by, want int) {
	t.Helper()
	if got, e := x.Add(k, by); got != want || e != api.OK {
		t.Errorf("Add(%d, %d) = %d, %d, want %d", k, by, got, e, want)
	}
}

func mostIs(t *testing.T, x *Tally, k, n, want int) {
	t.Helper()
	if got, e := x.Most(k, n); got != want || e != api.OK {
		t.Errorf("Most(%d, %d) = %d, %d, want %d", k, n, got, e, want)
	}
}

func taken(t *testing.T, x *Tally, want ...int) {
	t.Helper()
	if got := x.Take(); !slices.Equal(got, want) {
		t.Errorf("Take() = %v, want %v", got, want)
	}
}

func spread(t *testing.T, x *Tally, list []int, workers int) {
	t.Helper()
	if e := x.Spread(list, workers); e != api.OK {
		t.Errorf("Spread(%.99v, %d) = %d", list, workers, e)
	}
}

func spreadRefused(t *testing.T, x *Tally, list []int, workers int, want api.Errno) {
	t.Helper()
	if e := x.Spread(list, workers); e != want {
		t.Errorf("Spread(%d numbers, %d) = %d, want %d", len(list), workers, e, want)
	}
}

// counterRefused asks all calls that take a counter for one that is none.
func counterRefused(t *testing.T, x *Tally, k int, want api.Errno) {
	t.Helper()
	for _, n := range []int{0, 1, -1, 7, math.MaxInt, math.MinInt} {
		if got, e := x.Add(k, n); got != 0 || e != want {
			t.Errorf("Add(%d, %d) = %d, %d, want %d", k, n, got, e, want)
		}
		if got, e := x.Most(k, n); got != 0 || e != want {
			t.Errorf("Most(%d, %d) = %d, %d, want %d", k, n, got, e, want)
		}
	}
	if got, e := x.Read(k); got != 0 || e != want {
		t.Errorf("Read(%d) = %d, %d, want %d", k, got, e, want)
	}
}

// repeated is a list of so many times the same number.
func repeated(k, count int) []int {
	return slices.Repeat([]int{k}, count)
}

func TestExamples(t *testing.T) { // the chapter's examples
	for _, n := range []int{0, 65, -1} {
		if x, e := New(n); x != nil || e != api.ErrBadConfig {
			t.Errorf("New(%d) = %v, %d", n, x, e)
		}
	}
	x := newTally(t, 2)
	if x.Len() != 2 {
		t.Errorf("Len() = %d", x.Len())
	}
	holds(t, x, 0, 0)
	added(t, x, 0, 5, 5)
	added(t, x, 0, -7, -2)
	holds(t, x, -2, 0)
	counterRefused(t, x, 2, api.ErrRange)

	spread(t, x, []int{0, 1, 0, 0}, 3)
	holds(t, x, 1, 1)
	spreadRefused(t, x, []int{2}, 1, api.ErrRange)
	spreadRefused(t, x, []int{0}, 0, api.ErrArg)
	spreadRefused(t, x, []int{0}, 17, api.ErrArg)
	holds(t, x, 1, 1)

	mostIs(t, x, 0, 5, 5)
	mostIs(t, x, 0, 3, 5)
	taken(t, x, 5, 1)
	holds(t, x, 0, 0)

	added(t, x, 0, math.MaxInt, math.MaxInt)
	added(t, x, 0, 1, math.MinInt)
}

func TestNew(t *testing.T) { // P16.1
	for n := 1; n <= 64; n++ {
		x := newTally(t, n)
		if x.Len() != n {
			t.Errorf("Len() of New(%d) = %d", n, x.Len())
		}
		holds(t, x, make([]int, n)...)
	}
	for _, n := range []int{0, 65, 66, -1, -2, -64, 100, 1000, math.MaxInt, math.MinInt, math.MaxInt32, math.MinInt32, 1 << 32, 1<<32 + 1, -1<<32 + 1} {
		if x, e := New(n); x != nil || e != api.ErrBadConfig {
			t.Errorf("New(%d) = %v, %d", n, x, e)
		}
	}
}

func TestTalliesStandAlone(t *testing.T) { // P16.1: what one counts no other does
	x, y := newTally(t, 3), newTally(t, 3)
	added(t, x, 1, 5, 5)
	mostIs(t, x, 0, 2, 2)
	spread(t, y, []int{2, 2}, 2)
	holds(t, x, 2, 5, 0)
	holds(t, y, 0, 0, 2)
	taken(t, x, 2, 5, 0)
	holds(t, y, 0, 0, 2)
}

func TestAdd(t *testing.T) { // P16.2
	x := newTally(t, 3)
	for _, c := range []struct{ k, by, want int }{
		{0, 0, 0}, {0, 1, 1}, {0, 1, 2}, {0, 0, 2}, {0, -2, 0}, {0, -1, -1}, {0, 0, -1}, {0, 1000, 999},
		{2, -5, -5}, {2, 3, -2}, {2, 1 << 40, 1<<40 - 2}, {2, -1 << 41, -1<<40 - 2},
		{1, math.MaxInt32, math.MaxInt32}, {1, 1, 1 << 31}, {1, math.MaxInt32, 1<<32 - 1}, {1, 1, 1 << 32},
	} {
		added(t, x, c.k, c.by, c.want)
		if got, e := x.Read(c.k); got != c.want || e != api.OK {
			t.Errorf("Read(%d) = %d, %d, want %d", c.k, got, e, c.want)
		}
	}
	holds(t, x, 999, 1<<32, -1<<40-2)
}

func TestAddWrapsAround(t *testing.T) { // P16.2: at both ends
	const greatest, least = math.MaxInt, math.MinInt
	for _, c := range []struct{ at, by, want int }{
		{greatest, 1, least}, {greatest, 2, least + 1}, {greatest, greatest, -2}, {greatest, least, -1}, {greatest, 0, greatest}, {greatest, -1, greatest - 1}, {greatest - 1, 1, greatest},
		{least, -1, greatest}, {least, -2, greatest - 1}, {least, least, 0}, {least, greatest, -1}, {least, 0, least}, {least, 1, least + 1}, {least + 1, -1, least},
		{1, greatest, least}, {-1, least, greatest}, {-2, least, greatest - 1},
	} {
		x := tallyOf(t, 7, c.at, -7)
		added(t, x, 1, c.by, c.want)
		holds(t, x, 7, c.want, -7)
	}
}

func TestEachCounterIsItsOwn(t *testing.T) { // P16.2, P16.4: at the greatest number of counters, the first and the last among them
	x := newTally(t, 64)
	want := make([]int, 64)
	for k := range 64 {
		want[k] = k*k - 500
		added(t, x, k, want[k], want[k])
		holds(t, x, want...)
	}
	for k := range 64 {
		want[k] = max(want[k], 40*k)
		mostIs(t, x, k, 40*k, want[k])
		holds(t, x, want...)
	}
	taken(t, x, want...)
	holds(t, x, make([]int, 64)...)
}

func TestTake(t *testing.T) { // P16.3
	x := tallyOf(t, 5, -3, 0, math.MaxInt, math.MinInt)
	holds(t, x, 5, -3, 0, math.MaxInt, math.MinInt)
	holds(t, x, 5, -3, 0, math.MaxInt, math.MinInt) // All leaves the numbers
	taken(t, x, 5, -3, 0, math.MaxInt, math.MinInt)
	holds(t, x, 0, 0, 0, 0, 0)
	taken(t, x, 0, 0, 0, 0, 0)
	if x.Len() != 5 {
		t.Errorf("Len() behind Take = %d", x.Len())
	}
	// It counts on from 0.
	added(t, x, 0, 2, 2)
	mostIs(t, x, 1, -1, 0)
	mostIs(t, x, 4, 1, 1)
	spread(t, x, []int{3, 2, 3}, 2)
	taken(t, x, 2, 0, 1, 2, 1)
	taken(t, x, 0, 0, 0, 0, 0)
}

func TestMost(t *testing.T) { // P16.4
	const greatest, least = math.MaxInt, math.MinInt
	for _, c := range []struct{ at, n, want int }{
		// Smaller, the same, greater.
		{5, 4, 5}, {5, 5, 5}, {5, 6, 6}, {5, 0, 5}, {5, -6, 5}, {5, 1 << 40, 1 << 40},
		{0, 0, 0}, {0, -1, 0}, {0, 1, 1},
		{-5, -6, -5}, {-5, -5, -5}, {-5, -4, -4}, {-5, 0, 0}, {-5, 5, 5},
		{1 << 32, 1, 1 << 32}, {1, 1 << 32, 1 << 32}, {-1 << 32, -1, -1},
		// Both ends.
		{greatest, greatest, greatest}, {greatest, least, greatest}, {greatest, greatest - 1, greatest}, {greatest - 1, greatest, greatest}, {greatest, -1, greatest}, {greatest, 0, greatest},
		{least, least, least}, {least, greatest, greatest}, {least, least + 1, least + 1}, {least + 1, least, least + 1}, {least, 0, 0}, {least, -1, -1},
		{0, greatest, greatest}, {0, least, 0}, {-1, least, -1}, {-1, greatest, greatest},
	} {
		x := tallyOf(t, 3, c.at, -3)
		mostIs(t, x, 1, c.n, c.want)
		holds(t, x, 3, c.want, -3)
	}
}

func TestSpreadByAllNumbersOfWorkers(t *testing.T) { // P16.5: fewer, as many and more workers than numbers
	for workers := 1; workers <= 16; workers++ {
		for length := range 40 {
			x := tallyOf(t, 0, 100, -1, 0, 7)
			want := []int{0, 100, -1, 0, 7}
			var list []int
			for place := range length {
				k := place * place % 4 // never 2 or 3
				list = append(list, k)
				want[k]++
			}
			spread(t, x, list, workers)
			holds(t, x, want...)
		}
	}
}

func TestSpreadOfSomeLists(t *testing.T) { // P16.5
	for _, workers := range []int{1, 2, 3, 15, 16} {
		x := newTally(t, 64)
		want := make([]int, 64)
		// None, one number at either edge, and a number many times.
		spread(t, x, nil, workers)
		spread(t, x, []int{}, workers)
		holds(t, x, want...)
		spread(t, x, []int{0}, workers)
		spread(t, x, []int{63}, workers)
		want[0], want[63] = 1, 1
		holds(t, x, want...)
		spread(t, x, repeated(31, 1000), workers)
		want[31] += 1000
		holds(t, x, want...)
		// Every counter, forwards and backwards.
		var list []int
		for k := range 64 {
			list = append(list, k)
			want[k] += 2
		}
		spread(t, x, list, workers)
		slices.Reverse(list)
		spread(t, x, list, workers)
		holds(t, x, want...)
		// As long as it may be.
		spread(t, x, slices.Repeat(list, 64), workers)
		spread(t, x, repeated(5, 4096), workers)
		for k := range 64 {
			want[k] += 64
		}
		want[5] += 4096
		holds(t, x, want...)
	}
}

func TestSpreadWrapsAround(t *testing.T) { // P16.5 with P16.2's sums
	x := tallyOf(t, math.MaxInt-1, math.MaxInt, -1)
	spread(t, x, []int{0, 1, 0, 2, 0}, 4)
	holds(t, x, math.MinInt+1, math.MinInt, 0)
}

func TestCountersThatAreNone(t *testing.T) { // P16.2, P16.4, R5
	for _, n := range []int{1, 2, 63, 64} {
		x := newTally(t, n)
		want := make([]int, n)
		// The edges themselves are counters.
		added(t, x, 0, 3, 3)
		added(t, x, n-1, 4, 4+3*max(0, 2-n))
		want[0] = 3
		want[n-1] += 4
		for _, k := range append([]int{n, n + 1, -n}, oddNumbers...) {
			counterRefused(t, x, k, api.ErrRange)
			for _, workers := range []int{1, 3, 16} {
				spreadRefused(t, x, []int{k}, workers, api.ErrRange)
				spreadRefused(t, x, []int{0, n - 1, k}, workers, api.ErrRange)
			}
			holds(t, x, want...)
		}
	}
}

func TestSpreadOfANumberThatIsNone(t *testing.T) { // P16.5, R5: wherever it stands, nothing is raised
	for _, length := range []int{1, 2, 3, 20, 4096} {
		for _, at := range []int{0, length / 2, length - 1} {
			for _, k := range []int{-1, 3, math.MaxInt, math.MinInt} {
				for _, workers := range []int{1, 2, 16} {
					x := tallyOf(t, 1, 2, 3)
					list := repeated(1, length)
					list[at] = k
					spreadRefused(t, x, list, workers, api.ErrRange)
					holds(t, x, 1, 2, 3)
				}
			}
		}
	}
}

func TestSpreadAtTheEdges(t *testing.T) { // P16.5, R5
	x := tallyOf(t, 1, 2)
	for _, workers := range []int{0, 17, -1, 18, -16, 100, math.MaxInt, math.MinInt, 1<<32 + 1, -1<<32 + 1} {
		spreadRefused(t, x, []int{0, 1}, workers, api.ErrArg)
		spreadRefused(t, x, nil, workers, api.ErrArg)
	}
	for _, length := range []int{4097, 4098, 10000, 1 << 16, 1<<16 + 1, 1 << 20} {
		spreadRefused(t, x, repeated(0, length), 1, api.ErrLarge)
		spreadRefused(t, x, repeated(1, length), 16, api.ErrLarge)
	}
	holds(t, x, 1, 2)
	spread(t, x, repeated(0, 4096), 1)
	spread(t, x, repeated(1, 4096), 16)
	holds(t, x, 4097, 4098)
}

func TestOrderOfErrors(t *testing.T) { // R2
	x := tallyOf(t, 1, 2)
	long := repeated(-1, 4097)
	for _, c := range []struct {
		list    []int
		workers int
		want    api.Errno
	}{
		{long, 0, api.ErrArg}, {long, 17, api.ErrArg}, {long, 1, api.ErrLarge}, {long, 16, api.ErrLarge},
		{repeated(0, 4097), 17, api.ErrArg}, {repeated(0, 4097), -1, api.ErrArg},
		{[]int{2}, 0, api.ErrArg}, {[]int{0, -1}, 17, api.ErrArg}, {[]int{2}, 1, api.ErrRange},
		{append(repeated(0, 4096), 2), 1, api.ErrLarge}, {append(repeated(0, 4095), 2), 1, api.ErrRange},
	} {
		spreadRefused(t, x, c.list, c.workers, c.want)
		spreadRefused(t, nil, c.list, c.workers, api.ErrArg)
	}
	holds(t, x, 1, 2)
}

func TestNilTally(t *testing.T) { // P16.2 to P16.6, R6
	var x *Tally
	if x.Len() != 0 {
		t.Errorf("Len() = %d", x.Len())
	}
	for range 2 {
		holds(t, x)
		taken(t, x)
	}
	for _, k := range append([]int{0, 1, 63}, oddNumbers...) {
		counterRefused(t, x, k, api.ErrArg)
		for _, workers := range []int{1, 16, 0, 17, math.MinInt} {
			spreadRefused(t, x, []int{k}, workers, api.ErrArg)
		}
	}
	spreadRefused(t, x, nil, 1, api.ErrArg)
	spreadRefused(t, x, nil, 0, api.ErrArg)
	spreadRefused(t, x, repeated(0, 4097), 1, api.ErrArg)
}

func TestTallyThatNewDidNotMake(t *testing.T) { // P0.1: it has no counter
	x := new(Tally)
	if x.Len() != 0 {
		t.Errorf("Len() = %d", x.Len())
	}
	holds(t, x)
	taken(t, x)
	counterRefused(t, x, 0, api.ErrRange)
	spread(t, x, nil, 16)
	spreadRefused(t, x, []int{0}, 1, api.ErrRange)
	spreadRefused(t, x, []int{0}, 0, api.ErrArg)
}
