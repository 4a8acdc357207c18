package driver

import (
	"strings"
	"testing"

	"arbiter/api"
)

// filled is so many bytes of remarks, each with its byte 10.
func filled(size int) string {
	text := strings.Repeat("#"+strings.Repeat("x", 998)+"\n", size/1000)
	if rest := size % 1000; rest > 0 {
		text += strings.Repeat("#", rest-1) + "\n"
	}
	return text
}

// limited is a script of which just the first so many bytes of a text come within the limit.
func limited(first int, text string) string {
	return filled(api.MaxScript-first) + text
}

// saysAtLimit holds a script like says, but cut in two around the limit alone.
func saysAtLimit(t *testing.T, script string, lineCount int, want ...string) {
	t.Helper()
	if got := Run(script); got != lines(want...) {
		t.Errorf("Run(%s) answered %s, wanted %s", show(script), show(got), show(lines(want...)))
	}
	x := tell(script)
	x.holds(t, []string{script})
	for _, near := range []int{-2, -1, 0, 1, 2} {
		if at := api.MaxScript + near; at <= len(script) {
			x.holds(t, []string{script[:at], script[at:]})
			x.holds(t, append([]string{script[:at]}, bytesOf(script[at:])...))
		}
	}
	s := Open()
	s.Feed(script)
	s.End()
	if s.Lines() != lineCount {
		t.Errorf("%s has %d lines, wanted %d", show(script), s.Lines(), lineCount)
	}
}

// fillLines is how many lines filled has.
func fillLines(size int) int {
	return (size + 999) / 1000
}

func TestFilled(t *testing.T) {
	for _, size := range []int{0, 1, 2, 999, 1000, 1001, api.MaxScript - 1, api.MaxScript} {
		if text := filled(size); len(text) != size || strings.Count(text, "\n") != fillLines(size) {
			t.Errorf("%d bytes and %d lines, wanted %d and %d", len(text), strings.Count(text, "\n"), size, fillLines(size))
		}
	}
}

// TestAtEachByte: the limit stands at each byte of two lines and what follows them.
func TestAtEachByte(t *testing.T) { // P24.2
	const text = "chain Object\nbelow I I\nbelow I LObject;"
	for first := range len(text) + 1 {
		want, count := []string{}, fillLines(api.MaxScript-first)
		if first >= len("chain Object\n") {
			want, count = append(want, "Object"), count+1
		}
		if first >= len("chain Object\nbelow I I\n") {
			want, count = append(want, "yes"), count+1
		}
		if first == len(text) {
			want, count = append(want, "no"), count+1
		} else {
			want = append(want, "error 5")
		}
		saysAtLimit(t, limited(first, text), count, want...)
	}
}

func TestOneByteMore(t *testing.T) { // P24.2: which byte it is that is one too many
	count := fillLines(api.MaxScript)
	// As many as there may be; one more is the first of a line, whatever follows.
	saysAtLimit(t, filled(api.MaxScript), count)
	for _, more := range []string{"\n", "#", "x", "# x\n", "chain Object\n", "define\n", "end\n", "\n\n\n", " ", "\x00", strings.Repeat("x", 5000), strings.Repeat("chain Object\n", 500), example("A"), filled(api.MaxScript)} {
		saysAtLimit(t, filled(api.MaxScript)+more, count, "error 5")
	}
	// It is the byte 10 of a line, or one in its middle.
	for _, line := range []string{"chain Object", "chains", "# x", "define", "cache 2", "cache 65", "run A.f()V fuel 5", "run", " ", "#"} {
		count := fillLines(api.MaxScript - len(line))
		saysAtLimit(t, limited(len(line), line+"\n"), count, "error 5")
		saysAtLimit(t, limited(len(line), line+"\nchain Object\n"), count, "error 5")
		saysAtLimit(t, limited(len(line), line+"x"), count, "error 5")
		saysAtLimit(t, limited(len(line), line+"x\nchain Object\n"), count, "error 5")
	}
	// An empty line's only byte is a byte 10.
	saysAtLimit(t, limited(0, "\n"), count, "error 5")
	saysAtLimit(t, limited(1, "\n\n"), fillLines(api.MaxScript-1)+1, "error 5")
	saysAtLimit(t, limited(2, "\n\n"), fillLines(api.MaxScript-2)+2)
	// One line alone, that is as long as a script may be, and one byte longer.
	for line, want := range map[string]string{"#": "", "x": "error 5", " ": "error 5"} {
		whole := strings.Repeat(line, api.MaxScript)
		saysAtLimit(t, whole, 1, wanted(want)...)
		saysAtLimit(t, whole[1:]+"\n", 1, wanted(want)...)
		saysAtLimit(t, whole+"\n", 0, "error 5")
		saysAtLimit(t, whole+line, 0, "error 5")
		saysAtLimit(t, whole+whole, 0, "error 5")
		saysAtLimit(t, whole+"\nchain Object\n", 0, "error 5")
	}
	// The last line is done, if there is no byte more.
	for line, want := range map[string]string{"chain Object": "Object", "chains": "error 8", "define": "error 4", "define x": "error 4", "cache 2": "cached", "cache 65": "error 7", "run A.f()V fuel 5": "thrown 20 spent 0", "end": "error 8", "#": ""} {
		saysAtLimit(t, limited(len(line), line), fillLines(api.MaxScript-len(line))+1, wanted(want)...)
		saysAtLimit(t, limited(len(line)+1, line+"\n"), fillLines(api.MaxScript-len(line)-1)+1, wanted(want)...)
	}
}

// TestAtEachByteOfAClass: the error 5 is the only one within a class, and a class that is not whole has not arrived.
func TestAtEachByteOfAClass(t *testing.T) { // P24.2
	text := example("A")
	for first := range len(text) + 1 {
		script := limited(first, text)
		count := fillLines(api.MaxScript-first) + strings.Count(text[:first], "\n")
		switch {
		case first == len(text):
			saysAtLimit(t, script, count, "defined 3")
			saysAtLimit(t, script+"x", count, "defined 3", "error 5")
			saysAtLimit(t, script+text, count, "defined 3", "error 5")
		default:
			saysAtLimit(t, script, count, "error 5")
			saysAtLimit(t, script+"chain Object\n"+text, count, "error 5")
		}
		if len(text[:first]) >= len("define\n") && first < len(text)-1 {
			// Of just MaxScript bytes, it is the end that is missing.
			began := script[:api.MaxScript]
			isCut := 0
			if began[len(began)-1] != '\n' {
				isCut = 1
			}
			saysAtLimit(t, began, count+isCut, "error 4")
		}
	}
	// The end itself, without its byte 10, may be the last line.
	whole := strings.TrimSuffix(text, "\n")
	saysAtLimit(t, limited(len(whole), whole), fillLines(api.MaxScript-len(whole))+strings.Count(text, "\n"), "defined 3")
}

func TestClassBeyondLimit(t *testing.T) { // P24.2: a class whose text alone passes the limit, by short lines, by empty ones and by a long one
	for _, filler := range []string{"x\n", "\n", "# x\n", "end \n", "define\n", "x"} {
		script := "define\n" + strings.Repeat(filler, api.MaxScript/len(filler))
		count := 1 + (api.MaxScript-len("define\n"))/len(filler)
		if filler == "x" {
			count = 1
		}
		saysAtLimit(t, script, count, "error 5")
		saysAtLimit(t, script+"\nend\nchain Object\n", count, "error 5")
	}
	// A class as large as a script may be ends in time.
	text := func(more int) string {
		return "define\n" + strings.Repeat("\n", api.MaxScript+more-len("define\n")-len("end\n")) + "end\n"
	}
	saysAtLimit(t, text(0), strings.Count(text(0), "\n"), "error 5 at 0")
	saysAtLimit(t, strings.TrimSuffix(text(1), "\n"), strings.Count(text(1), "\n"), "error 5 at 0")
	saysAtLimit(t, text(1), strings.Count(text(1), "\n")-1, "error 5")
}

// TestLimitByteByByte: whatever the pieces are, and whatever is done ahead of the limit.
func TestLimitByteByByte(t *testing.T) { // P24.2, P24.3
	for _, script := range []string{filled(api.MaxScript + 1), limited(4, "chain Object\n"), limited(20, example("A")), limited(20, "chain Object\nbelow I I\n"), strings.Repeat("\n", api.MaxScript+9), limited(3, "end"), limited(len(example("A")+"chain A"), example("A")+"chain A"), strings.Repeat("x", api.MaxScript+3)} {
		x := tell(script)
		x.holds(t, bytesOf(script))
		var pieces []string
		for at := 0; at < len(script); at += 777 {
			pieces = append(pieces, script[at:min(len(script), at+777)], "")
		}
		x.holds(t, pieces)
	}
}

// TestBehindTheLimit: the error 5 is answered once, by the Feed with which the byte comes, and nothing behind it turns anything.
func TestBehindTheLimit(t *testing.T) { // P24.2, P24.3, P24.4
	for _, begin := range []string{filled(api.MaxScript), limited(7, "define\n"), limited(3, "cha"), limited(len(example("A")), example("A"))} {
		s := Open()
		first := s.Feed(begin)
		w, n, count := s.World(), s.World().Len(), s.Lines()
		if got := s.Feed(""); got != "" {
			t.Errorf("nothing more answered %q", got)
		}
		if got := s.Feed("i"); got != "error 5\n" {
			t.Errorf("one byte more answered %q, behind %q", got, first)
		}
		for _, piece := range []string{"i", "", "\n", "chain Object\n", example("B"), "end\n", "cache 2\n", "define\n", filled(api.MaxScript)} {
			for range 2 {
				if got := s.Feed(piece) + s.End() + s.End(); got != "" || s.Lines() != count || s.World() != w || w.Len() != n {
					t.Errorf("behind the limit, %s answered %q, with %d lines and %d classes, wanted %d and %d", show(piece), got, s.Lines(), s.World().Len(), count, n)
				}
			}
		}
	}
}

// TestManyAnswersAheadOfTheLimit: all lines that are whole are done, also in the piece with which the limit comes.
func TestManyAnswersAheadOfTheLimit(t *testing.T) { // P24.2
	const line = "below I I\n"
	count := api.MaxScript / len(line)
	want := strings.Repeat("yes\n", count) + "error 5\n"
	for _, more := range []int{1, 2, 1000} {
		if got := Run(strings.Repeat(line, count+more)); got != want {
			t.Errorf("%d lines answered %d bytes, wanted %d", count+more, len(got), len(want))
		}
	}
	if got := Run(strings.Repeat(line, count)); got != strings.TrimSuffix(want, "error 5\n") {
		t.Errorf("%d lines answered %d bytes", count, len(got))
	}
}
