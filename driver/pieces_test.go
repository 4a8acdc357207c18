package driver

import (
	"strings"
	"testing"
)

// A script of more than short bytes is cut at no more than some places.
const short, some = 600, 100

// cuts are the places at which a script is cut in two: all, or some of those beside a byte 10.
func cuts(script string) []int {
	var all []int
	for at := range len(script) + 1 {
		if len(script) <= short || at == len(script) || strings.Contains(script[max(0, at-2):at+1], "\n") {
			all = append(all, at)
		}
	}
	if len(script) <= short {
		return all
	}
	var out []int
	for n := 0; n < len(all); n += 1 + len(all)/some {
		out = append(out, all[n])
	}
	return out
}

func bytesOf(script string) []string {
	out := make([]string, len(script))
	for at := range len(script) {
		out[at] = script[at : at+1]
	}
	return out
}

// holdsInPieces feeds a script whole, byte by byte, and cut in two.
func holdsInPieces(t *testing.T, script string) {
	t.Helper()
	x := tell(script)
	x.holds(t, []string{script})
	x.holds(t, bytesOf(script))
	for _, at := range cuts(script) {
		x.holds(t, []string{script[:at], script[at:]})
	}
}

// fed is a piece, what it answers, and how many lines and classes there are then.
type fed struct {
	piece, want    string
	lines, classes int
}

func feed(t *testing.T, s *Session, all []fed) {
	t.Helper()
	w := s.World()
	for _, one := range all {
		if got := s.Feed(one.piece); got != one.want || s.Lines() != one.lines || s.World() != w || w.Len() != one.classes {
			t.Fatalf("Feed(%s) answered %s (%d lines, %d classes), wanted %s (%d, %d)", show(one.piece), show(got), s.Lines(), w.Len(), show(one.want), one.lines, one.classes)
		}
	}
}

func TestFeed(t *testing.T) { // P24.3, P24.4
	s := Open()
	if s.Lines() != 0 || s.World().Len() != 3 {
		t.Errorf("a new session has %d lines and %d classes", s.Lines(), s.World().Len())
	}
	feed(t, s, []fed{
		{"", "", 0, 3}, {"chain", "", 0, 3}, {" Obj", "", 0, 3}, {"", "", 0, 3}, {"ect", "", 0, 3}, {"\n", "Object\n", 1, 3},
		{"\n", "", 2, 3}, {"\n\n", "", 4, 3}, {"# x\n#", "", 5, 3}, {"y\nchains\nbel", "error 8\n", 7, 3}, {"ow I I\nbelow I LObject;\nbelow", "yes\nno\n", 9, 3}, {" I I\n", "yes\n", 10, 3},
		{"def", "", 10, 3}, {"ine", "", 10, 3}, {"\n", "", 11, 3}, {"class A\nsuper Object", "", 12, 3}, {"\nflags public super\nloader 0\n", "", 15, 3}, {"e", "", 15, 3}, {"nd", "", 15, 3}, {"\n", "defined 3\n", 16, 4},
		{example("B") + "chain B\nchain A", "defined 4\nB\nObject\n", 28, 5}, {"\ndefine\n", "A\nObject\n", 30, 5}, {"\n\nend\n", "error 4 at 1\n", 33, 5}, {"cache 2\nrun B.m()I fuel 5\n", "cached\nthrown 23 spent 0\n", 35, 5},
		{strings.Repeat("x", 1999), "", 35, 5}, {"xx", "", 35, 5}, {"\n", "error 5\n", 36, 5}, {"below I I", "", 36, 5},
	})
	if got := s.End(); got != "yes\n" || s.Lines() != 37 {
		t.Errorf("End answered %q, with %d lines", got, s.Lines())
	}
	feed(t, s, []fed{{"", "", 37, 5}, {"\n", "", 37, 5}, {"below I I\n", "", 37, 5}, {example("C"), "", 37, 5}})
	for range 3 {
		if got := s.End(); got != "" || s.Lines() != 37 {
			t.Errorf("End again answered %q, with %d lines", got, s.Lines())
		}
	}
}

func TestEnd(t *testing.T) { // P24.1, P24.3, P24.4: what the last line and the end answer
	for _, one := range []struct {
		begin       string
		first, last string
		lines       int
	}{
		{"", "", "", 0}, {"\n", "", "", 1}, {"#", "", "", 1}, {"# x\n", "", "", 1}, {"x", "", "error 8\n", 1}, {"x\n", "error 8\n", "", 1}, {"x\ny", "error 8\n", "error 8\n", 2}, {"\n\nx", "", "error 8\n", 3},
		{"define", "", "error 4\n", 1}, {"define\n", "", "error 4\n", 1}, {"define ", "", "error 4\n", 1}, {"define \n", "error 4\n", "", 1}, {"define\nx", "", "error 4\n", 2}, {"define\nx\n", "", "error 4\n", 2}, {"define\n\n", "", "error 4\n", 2},
		{"define\nend", "", "error 4 at 1\n", 2}, {"define\nend\n", "error 4 at 1\n", "", 2}, {"define\nend\ndefine", "error 4 at 1\n", "error 4\n", 3}, {"define\nend\nend", "error 4 at 1\n", "error 8\n", 3}, {"define\nen", "", "error 4\n", 2}, {"define\nendd", "", "error 4\n", 2},
		{example("A"), "defined 3\n", "", 11}, {strings.TrimSuffix(example("A"), "\n"), "", "defined 3\n", 11}, {strings.TrimSuffix(example("A"), "d\n"), "", "error 4\n", 11}, {example("A") + "chain A", "defined 3\n", "A\nObject\n", 12},
		{"cache 2", "", "cached\n", 1}, {"run A.f()V fuel 1", "", "thrown 20 spent 0\n", 1}, {strings.Repeat("x", 2001), "", "error 5\n", 1}, {strings.Repeat("#", 2001), "", "", 1},
	} {
		s := Open()
		if got := s.Feed(one.begin); got != one.first {
			t.Errorf("Feed(%s) answered %q, wanted %q", show(one.begin), got, one.first)
		}
		if got := s.End(); got != one.last || s.Lines() != one.lines {
			t.Errorf("End behind %s answered %q, with %d lines, wanted %q and %d", show(one.begin), got, s.Lines(), one.last, one.lines)
		}
		if got := s.End() + s.Feed("chain Object\n") + s.End() + s.Feed("end\n"); got != "" || s.Lines() != one.lines {
			t.Errorf("behind the end of %s: %q, with %d lines", show(one.begin), got, s.Lines())
		}
	}
}

// TestEndOfANewSession: nothing has come, and nothing comes.
func TestEndOfANewSession(t *testing.T) { // P24.3, P24.4
	s := Open()
	w := s.World()
	for range 2 {
		if got := s.End() + s.Feed(example("A")) + s.Feed("x"); got != "" || s.Lines() != 0 || s.World() != w || w.Len() != 3 {
			t.Errorf("%q, %d lines, %d classes", got, s.Lines(), w.Len())
		}
	}
}
