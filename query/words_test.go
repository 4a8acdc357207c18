package query

import (
	"errors"
	"fmt"
	"maps"
	"slices"
	"strings"
	"testing"

	"arbiter/api"
	"arbiter/link"
)

// formsOf are the lines of the chapter's table.
func formsOf() []string {
	return []string{
		"select KIND REF RECV from CLASS",
		"static REF from CLASS",
		"resolve REF from CLASS",
		"below TYPE TYPE",
		"overrides METHOD METHOD",
		"vtable CLASS",
		"itable CLASS",
		"display CLASS",
		"chain CLASS",
		"closure CLASS",
		"methods CLASS",
	}
}

// soundWords are some that may stand for a word of a form.
func soundWords(word string) []string {
	long := strings.Repeat("n", api.MaxName)
	switch word {
	case "KIND":
		return []string{"virtual", "interface", "special"}
	case "REF":
		return []string{"A.m()V", "I:m()V", "A:m()V", "No.m()V", "[I.id()I", "[LNo;:none()V", deep + "I.id()I", "I.<init>()V", long + "." + long + "()V", "A.m(" + strings.Repeat("I", api.MaxArgs) + ")V"}
	case "RECV":
		return []string{"A", "I", "No", "[I", "[LA;", "[[LNo;", deep + "I", long, "p/q/r/s"}
	case "TYPE":
		return []string{"I", "LA;", "LI;", "LNo;", "[I", "[[LA;", deep + "I", "L" + long + ";"}
	case "METHOD":
		return []string{"A.m()V", "A.<init>()V", "I:p()V", "Object.kin()LObject;", "p/Z.n([[I[LA;)LB;"}
	case "from":
		return []string{"from"}
	case "CLASS":
		return []string{"A", "I", "Object", "p/Z", "q/Shut"}
	}
	return []string{word}
}

// wrongWords are such as are refused in the place of a word of a form.
func wrongWords(word string) map[api.Errno][]string {
	long := strings.Repeat("n", api.MaxName)
	switch word {
	case "KIND":
		return map[api.Errno][]string{api.ErrText: {"static", "Virtual", "VIRTUAL", "virtua", "virtuals", "iface", "interfaces", "specia", "invokevirtual", "1", "A.m()V", "from", "A", "virtual\n", "\tspecial", "virtual,special", "\xff", "KIND"}}
	case "REF":
		return map[api.Errno][]string{api.ErrText: noRefs()}
	case "RECV":
		return map[api.Errno][]string{api.ErrText: {"LA;", "[A", "[", "[[", "I;", "1", "p/", "/p", "p//q", "V;", "[V", "()V", "A.m()V", "[LA", "[L;", "[LA;;", "[II", "A[", "A[]", "int[]", deep + "[I", deep + "[LA;", long + "n", "A\n", "\nA", "\x00", "\xff", "<init>", "a-b"}}
	case "TYPE":
		return map[api.Errno][]string{api.ErrText: {"A", "No", "V", "[", "[A", "[V", "L;", "LA", "A;", "LA;;", "II", "i", "int", "L1;", "Lp/;", "()V", "A.m()V", deep + "[I", deep + "[LA;", "L" + long + "n;", "I\n", "\nI", "L[I;", "\xff"}}
	case "METHOD":
		return map[api.Errno][]string{
			api.ErrText:      append(noRefs(), arrayRefs()...),
			api.NoClassDef:   {"No.m()V", "No:m()V", "no/Such.m()V", long + ".m()V", "a.m()V"},
			api.Incompatible: {"A:m()V", "I.m()V", "A:none()V", "Object:id()I", "E.m()V"},
			api.NoSuchMethod: {"A.none()V", "B.s()V", "B.x()V", "I:id()I", "E:m()V", "A.m()I"},
		}
	case "from":
		return map[api.Errno][]string{api.ErrText: {"for", "From", "FROM", "fro", "fromm", "A", "of", "from\n", "\tfrom", "1", "\xff", "from,"}}
	case "CLASS":
		return map[api.Errno][]string{
			api.ErrText:    {"1", "p/", "/A", "p//A", "[I", "[LA;", "LA;", "A.m()V", "<init>", "a-b", "A\n", "\nA", "A\x00", "\xff", long + "n", "A,B", "3", "-1"},
			api.NoClassDef: {"No", "a", "object", "p/A", "X", "I/I", "q/p/X", "from", "V", long},
		}
	}
	return map[api.Errno][]string{api.ErrWord: noCommands()}
}

// noCommands are first words of no line.
func noCommands() []string {
	return []string{"chains", "chai", "Chain", "CHAIN", "chain\n", "\nchain", "\tchain", "chain\t", "chain\x00", "chain,", "selec", "selects", "stati", "statics", "resolv", "belo", "belows", "override", "vtables", "vtabl", "itables", "tables", "displays", "closures", "method", "methods\r", "from", "virtual", "interface", "special", "define", "run", "cache", "end", "error", "#", "A", "A.m()V", "1", "\xff", "é", strings.Repeat("x", 900)}
}

// soundLines are lines of a form, each with another one of the words that may stand in its places.
func soundLines(form string) [][]string {
	words := strings.Fields(form)
	var lines [][]string
	for n := range 10 {
		var line []string
		for _, word := range words {
			sound := soundWords(word)
			line = append(line, sound[n%len(sound)])
		}
		lines = append(lines, line)
	}
	return lines
}

// isTaken asks a line whose words are all as they should be.
func isTaken(t *testing.T, l *link.Linker, line string) {
	t.Helper()
	if _, e := Ask(l, line); e != api.OK {
		t.Errorf("Ask(%s): %d", show(line), e)
	}
}

func TestSoundWords(t *testing.T) { // P23.3: what the words say may be wrong, not how they are written
	l := town(t)
	for _, form := range formsOf() {
		words := strings.Fields(form)
		for _, line := range soundLines(form) {
			isTaken(t, l, strings.Join(line, " "))
			for at, word := range words {
				for _, sound := range soundWords(word) {
					one := slices.Clone(line)
					one[at] = sound
					isTaken(t, l, strings.Join(one, " "))
				}
			}
		}
	}
}

func TestEachWrongWord(t *testing.T) { // P23.3: alone, in each place
	l := town(t)
	for _, form := range formsOf() {
		for at, word := range strings.Fields(form) {
			for want, all := range wrongWords(word) {
				for n, wrong := range all {
					line := slices.Clone(soundLines(form)[n%10])
					line[at] = wrong
					refuses(t, l, strings.Join(line, " "), want)
				}
			}
		}
	}
}

func TestTwoWrongWords(t *testing.T) { // P23.3: the one further left is told
	l := town(t)
	for _, form := range formsOf() {
		words := strings.Fields(form)
		line := soundLines(form)[0]
		for left := range words {
			for right := left + 1; right < len(words); right++ {
				twoWrong(t, l, line, left, words[left], right, words[right])
			}
		}
	}
}

// twoWrong takes each wrong word for the left place, and some of each error for the right one.
func twoWrong(t *testing.T, l *link.Linker, line []string, left int, leftWord string, right int, rightWord string) {
	t.Helper()
	for want, all := range wrongWords(leftWord) {
		for n, wrong := range all {
			for _, others := range wrongWords(rightWord) {
				both := slices.Clone(line)
				both[left], both[right] = wrong, others[n%len(others)]
				refuses(t, l, strings.Join(both, " "), want)
			}
		}
	}
}

// TestAllWordsWrong: each word is looked at as soon as those ahead of it are right.
func TestAllWordsWrong(t *testing.T) { // P23.3, R2
	l := town(t)
	for _, form := range formsOf() {
		words := strings.Fields(form)
		line := soundLines(form)[0]
		for first := range words {
			for want, all := range wrongWords(words[first]) {
				one := append(slices.Clone(line[:first]), all[0])
				for _, word := range words[first+1:] {
					one = append(one, lastError(word))
				}
				refuses(t, l, strings.Join(one, " "), want)
			}
		}
	}
}

// lastError is a wrong word with the error that is looked for last.
func lastError(word string) string {
	all := wrongWords(word)
	return all[slices.Max(slices.Collect(maps.Keys(all)))][0]
}

func TestWordsTooFewAndTooMany(t *testing.T) { // P23.3
	l := town(t)
	for _, form := range formsOf() {
		for _, line := range soundLines(form) {
			refuses(t, l, strings.Join(line[:len(line)-1], " "), api.ErrArg)
			for _, more := range []string{"A", "from", "x", "\xff", line[len(line)-1], line[0]} {
				refuses(t, l, strings.Join(append(slices.Clone(line), more), " "), api.ErrArg)
				refuses(t, l, strings.Join(slices.Insert(slices.Clone(line), 1, more), " "), api.ErrArg)
			}
			whole := slices.Concat(line, slices.Repeat([]string{"A"}, 12))
			for count := 1; count <= 12; count++ {
				if count != len(line) {
					refuses(t, l, strings.Join(whole[:count], " "), api.ErrArg)
				}
			}
			refuses(t, l, line[0]+strings.Repeat(" x", 900), api.ErrArg)
		}
	}
}

// TestWrongCountAndWrongWords: how many there are is told ahead of what they are.
func TestWrongCountAndWrongWords(t *testing.T) { // P23.3, R2
	l := town(t)
	for _, line := range []string{"select", "select static", "select virtual A.m A from", "select x x x x x x", "static A.m from", "static A.m from 1 1", "resolve", "resolve 1", "below A", "below A A A", "overrides No.m()V", "overrides x x x", "vtable", "vtable No No", "itable 1 2", "display", "chain", "chain 1 2", "closure No A", "methods [I x"} {
		refuses(t, l, line, api.ErrArg)
	}
}

func TestNoCommand(t *testing.T) { // P23.3: ErrWord, with any number of words
	l := town(t)
	for _, wrong := range noCommands() {
		for count := range 9 {
			for _, word := range []string{"A", "1", "from", "No"} {
				refuses(t, l, wrong+strings.Repeat(" "+word, count), api.ErrWord)
			}
		}
	}
}

func TestBlanks(t *testing.T) { // P23.3: ErrText, ahead of all that the words say
	l := town(t)
	for n := range 20 {
		refuses(t, l, strings.Repeat(" ", n), api.ErrText)
	}
	for _, form := range append(formsOf(), "chains CLASS", "x", "chain", "chain 1", "chain No", "below A A A") {
		var line []string
		for _, word := range strings.Fields(form) {
			line = append(line, soundWords(word)[0])
		}
		whole := strings.Join(line, " ")
		refuses(t, l, " "+whole, api.ErrText)
		refuses(t, l, whole+" ", api.ErrText)
		refuses(t, l, "  "+whole, api.ErrText)
		refuses(t, l, whole+"  ", api.ErrText)
		for at := 1; at < len(line); at++ {
			refuses(t, l, strings.Join(line[:at], " ")+"  "+strings.Join(line[at:], " "), api.ErrText)
			refuses(t, l, strings.Join(line[:at], " ")+"   "+strings.Join(line[at:], " "), api.ErrText)
		}
	}
}

// TestOtherWhiteSpace: the byte 32 alone parts words.
func TestOtherWhiteSpace(t *testing.T) { // P23.3
	l := town(t)
	for _, white := range []string{"\t", "\n", "\r", "\v", "\f", "\u00a0", "\u2003", "\x00"} {
		refuses(t, l, "chain"+white+"A", api.ErrWord)
		refuses(t, l, "chain A"+white, api.ErrText)
		refuses(t, l, "chain "+white+"A", api.ErrText)
		refuses(t, l, "chain "+white, api.ErrText)
		refuses(t, l, "chain"+white+" A", api.ErrWord)
		refuses(t, l, white+"chain A", api.ErrWord)
		refuses(t, l, "below I"+white+"I", api.ErrArg)
		refuses(t, l, "below I I"+white, api.ErrText)
		refuses(t, l, white, api.ErrWord)
	}
}

func TestLongLines(t *testing.T) { // P23.3: lines of MaxLine bytes, and one more
	const fixed = len("resolve A.m from Object")
	desc := longDesc(api.MaxLine - fixed)
	longer := longDesc(api.MaxLine - fixed + 1)
	l := linkerOf(t, class("A", "Object", method("m"+desc, normal), method("m"+longer, normal)))
	line := "resolve A.m" + desc + " from Object"
	if len(line) != api.MaxLine {
		t.Fatalf("%d bytes", len(line))
	}
	says(t, l, line, "A.m"+desc)
	refuses(t, l, "resolve A.m"+longer+" from Object", api.ErrLarge)
	says(t, l, "methods A", "A.m"+desc, "A.m"+longer)
	for _, long := range []string{"x", " ", "[", "\n", "\xff", "é", "chain ", "chain A ", "A"} {
		text := strings.Repeat(long, api.MaxLine+1)
		refuses(t, l, text[:api.MaxLine+1], api.ErrLarge)
		refuses(t, l, text, api.ErrLarge)
		refuses(t, l, "chain "+text, api.ErrLarge)
		refuses(t, l, "chain A"+text, api.ErrLarge)
	}
	refuses(t, l, strings.Repeat("x", api.MaxLine), api.ErrWord)
	refuses(t, l, strings.Repeat(" ", api.MaxLine), api.ErrText)
	refuses(t, l, "chain "+strings.Repeat("A", api.MaxLine-6), api.ErrText)
	refuses(t, l, "chain"+strings.Repeat(" A", (api.MaxLine-5)/2), api.ErrArg)
	refuses(t, l, strings.Repeat("x", 50*api.MaxLine), api.ErrLarge)
}

func TestNilLinker(t *testing.T) { // P23.3, R6: ahead of all errors of the line
	for _, l := range []*link.Linker{nil, {}} { // one that is not from link.New has no world either
		for _, form := range formsOf() {
			for _, line := range soundLines(form) {
				refuses(t, l, strings.Join(line, " "), api.ErrArg)
			}
		}
		for _, line := range []string{"", " ", "x", "chain", "chain No", "chain  A", "below A A", "\xff", strings.Repeat("x", api.MaxLine+1)} {
			refuses(t, l, line, api.ErrArg)
		}
	}
}

// TestOrderOfErrors: of two conditions that hold at once the one that is named first is answered.
func TestOrderOfErrors(t *testing.T) { // P23.3, R2
	l := town(t)
	refuses(t, l, " "+strings.Repeat("x", api.MaxLine), api.ErrLarge)      // ahead of ErrText
	refuses(t, l, strings.Repeat("x ", api.MaxLine)+"x", api.ErrLarge)     // ahead of ErrWord
	refuses(t, l, "chain"+strings.Repeat(" A", api.MaxLine), api.ErrLarge) // ahead of ErrArg
	refuses(t, l, "chain "+strings.Repeat("A", api.MaxLine), api.ErrLarge) // ahead of what a word says
	refuses(t, l, "chains  A", api.ErrText)                                // ahead of ErrWord
	refuses(t, l, "chain A ", api.ErrText)                                 // ahead of ErrArg
	refuses(t, l, "chain  No", api.ErrText)                                // ahead of NoClassDef
	refuses(t, l, "chains", api.ErrWord)                                   // ahead of ErrArg
	refuses(t, l, "chains No", api.ErrWord)                                // ahead of what a word says
	refuses(t, l, "chain No No", api.ErrArg)                               // ahead of NoClassDef
	refuses(t, l, "chain 1 1", api.ErrArg)                                 // ahead of ErrText of a word
	refuses(t, l, "overrides No.m()V x", api.NoClassDef)                   // the word further left
	refuses(t, l, "overrides x No.m()V", api.ErrText)
	refuses(t, l, "overrides A.none()V A:m()V", api.NoSuchMethod)
	refuses(t, l, "overrides A:m()V A.none()V", api.Incompatible)
	refuses(t, l, "static x for No", api.ErrText)
	refuses(t, l, "resolve A.m()V from No", api.NoClassDef)
	refuses(t, l, "resolve A.m()V for No", api.ErrText)
	refuses(t, l, "select virtual A.m()V A from No", api.NoClassDef)
	refuses(t, l, "select virtual A.m()V 1 from No", api.ErrText)
	// A word that is refused stands ahead of every error of what is asked.
	refuses(t, l, "below LNo; x", api.ErrText)
	refuses(t, l, "select virtual No.m()V No from 1", api.ErrText)
	refuses(t, l, "static A.<init>()V from No", api.NoClassDef)
}

// TestAnswersHaveNoLineEnd: and no two blanks, and none at their ends.
func TestAnswersHaveNoLineEnd(t *testing.T) { // P23.3
	l := town(t)
	count := 0
	for _, form := range formsOf() {
		for _, line := range soundLines(form) {
			got, _ := Ask(l, strings.Join(line, " "))
			for _, answer := range got {
				count++
				if answer == "" || strings.ContainsAny(answer, "\n\r\t") || strings.Contains(answer, "  ") || strings.TrimSpace(answer) != answer {
					t.Errorf("Ask(%s): %q", fmt.Sprint(line), answer)
				}
			}
		}
	}
	if count < 100 {
		t.Errorf("%d lines", count)
	}
}

// TestWordErrors: what is wrong with a word is found in what wraps it, and both say what they are.
func TestWordErrors(t *testing.T) {
	for _, e := range []api.Errno{api.ErrText, api.ErrWord, api.NoClassDef, api.NoSuchMethod} {
		err := error(wordError{"a word", fault(e)})
		var found fault
		if !errors.As(err, &found) || found != fault(e) {
			t.Errorf("errors.As finds %d in %v", found, err)
		}
		if want := fmt.Sprintf("%q: error %d", "a word", e); err.Error() != want {
			t.Errorf("Error() = %s, want %s", err.Error(), want)
		}
	}
	a := asker{town(t)}
	for line, want := range map[string]string{"chains A": "chains", "chain No": "No", "below I x": "x", "overrides A.m()V B.none()V": "B.none()V", "select virtual A.m()V A for No": "for"} {
		_, err := a.read(strings.Fields(line))
		var wrong wordError
		if !errors.As(err, &wrong) || wrong.word != want {
			t.Errorf("%s: %v", line, err)
		}
	}
}
