package driver

import (
	"fmt"
	"regexp"
	"slices"
	"strings"
	"testing"

	"arbiter/api"
	"arbiter/code"
	"arbiter/engine"
	"arbiter/hier"
	"arbiter/link"
	"arbiter/query"
	"arbiter/shapes"
)

// moment is how a session stands once some bytes have come, and what the last of them is answered by.
type moment struct {
	due     int
	text    string
	lines   int
	classes int
}

// telling is the chapter a second time: the whole script is cut at once, the end of a class is sought ahead, lines are told by patterns, and each run and each question has a linker of its own.
type telling struct {
	moments []moment
	end     moment
}

const numberForm = `(?:0|-?[1-9][0-9]{0,18})`

var (
	nothing      = regexp.MustCompile(`\A(?:#|\z)`)
	anyDefine    = regexp.MustCompile(`\Adefine(?: |\z)`)
	anyCache     = regexp.MustCompile(`\Acache(?: |\z)`)
	anyRun       = regexp.MustCompile(`\Arun(?: |\z)`)
	cachePattern = regexp.MustCompile(`\Acache (` + numberForm + `)\z`)
	runPattern   = regexp.MustCompile(`\Arun ([^ ]+)((?: ` + numberForm + `)*) fuel (` + numberForm + `)\z`)
	anyNumber    = regexp.MustCompile(numberForm)
	manyDigits   = regexp.MustCompile(`[0-9]{19}`)
	writtenLine  = regexp.MustCompile("([^\n]*)\n")
)

func tell(script string) telling {
	all := strings.SplitAfter(script, "\n")
	if all[len(all)-1] == "" {
		all = all[:len(all)-1]
	}
	isBeyond := len(script) > 262144
	if isBeyond {
		all = all[:strings.Count(script[:262144], "\n")]
	}
	told, isWithin := tellLines(all)
	x, now := telling{}, moment{classes: 3}
	for at, line := range all {
		now = moment{now.due + len(line), told[at].text, at + 1, told[at].classes}
		if strings.HasSuffix(line, "\n") {
			x.moments = append(x.moments, now)
			now.text = ""
		}
	}
	switch {
	case isBeyond:
		x.moments = append(x.moments, moment{262145, "error 5\n", now.lines, now.classes})
	case isWithin:
		now.text += "error 4\n"
	}
	x.end = now
	return x
}

// tellLines tells lines, of which the last one may lack its byte 10, one by one, and whether they end within a class.
func tellLines(all []string) (told []moment, isWithin bool) {
	w := hier.New()
	plain := func(line string) string { return strings.TrimSuffix(line, "\n") }
	for len(all) > 0 {
		length := 1
		if plain(all[0]) == "define" {
			length = 1 + slices.IndexFunc(all, func(line string) bool { return plain(line) == "end" })
			if length == 0 {
				return append(told, slices.Repeat([]moment{{classes: w.Len()}}, len(all))...), true
			}
		}
		told = append(told, slices.Repeat([]moment{{classes: w.Len()}}, length-1)...)
		text := ""
		if length > 1 {
			text = arrived(w, strings.Join(all[1:length-1], "")+"end\n")
		} else {
			text = lineAnswer(w, plain(all[0]))
		}
		told = append(told, moment{text: text, classes: w.Len()})
		all = all[length:]
	}
	return told, false
}

func arrived(w *hier.World, text string) string {
	c, line, e := shapes.Parse(text)
	if e != api.OK {
		return fmt.Sprintf("error %d at %d\n", e, line)
	}
	id, e := w.Define(c)
	if e != api.OK {
		return fmt.Sprintf("error %d\n", e)
	}
	return fmt.Sprintf("defined %d\n", id)
}

func lineAnswer(w *hier.World, line string) string {
	switch {
	case nothing.MatchString(line):
		return ""
	case len(line) > 2000:
		return "error 5\n"
	case anyDefine.MatchString(line):
		return "error 4\n"
	case anyCache.MatchString(line):
		return cacheAnswer(cachePattern.FindStringSubmatch(line))
	case anyRun.MatchString(line):
		return runAnswer(w, runPattern.FindStringSubmatch(line))
	}
	l, _ := link.New(w)
	answer, e := query.Ask(l, line)
	if e != api.OK {
		return fmt.Sprintf("error %d\n", e)
	}
	return lines(answer...)
}

// isSmall is whether all numbers of a text are small enough to be some.
func isSmall(text string) bool {
	for _, number := range manyDigits.FindAllString(text, -1) {
		if number > "9223372036854775807" {
			return false
		}
	}
	return true
}

func scanned(word string) int {
	n := 0
	fmt.Sscan(word, &n)
	return n
}

func cacheAnswer(parts []string) string {
	if parts == nil || !isSmall(parts[0]) {
		return "error 4\n"
	}
	if n := scanned(parts[1]); n < 0 || n > 64 {
		return "error 7\n"
	}
	return "cached\n"
}

func runAnswer(w *hier.World, parts []string) string {
	if parts == nil || !isSmall(parts[2]+" "+parts[3]) {
		return "error 4\n"
	}
	ref, e := code.ParseRefText(parts[1])
	if e != api.OK {
		return "error 4\n"
	}
	var args []int
	for _, word := range anyNumber.FindAllString(parts[2], -1) {
		args = append(args, scanned(word))
	}
	l, _ := link.New(w)
	g, _ := engine.New(l, 0)
	r, e := g.Run(ref, args, scanned(parts[3]))
	if e != api.OK {
		return fmt.Sprintf("error %d\n", e)
	}
	how := fmt.Sprint("thrown ", int(r.Thrown))
	if r.Thrown == api.OK {
		how = map[api.Result]string{
			{}:                                       "returned",
			{Has: true}:                              fmt.Sprint("returned ", r.Value.N),
			{Has: true, Value: api.Value{Ref: true}}: fmt.Sprint("returned ref ", r.Value.N),
		}[api.Result{Has: r.Has, Value: api.Value{Ref: r.Value.Ref}}]
	}
	return writtenLine.ReplaceAllString(r.Out, "> $1\n") + fmt.Sprint(how, " spent ", r.Spent, "\n")
}

// due takes off the front what is due, and answers its text.
func (x *telling) due(came int, now *moment) string {
	text := ""
	for len(x.moments) > 0 && x.moments[0].due <= came {
		*now = x.moments[0]
		text += now.text
		x.moments = x.moments[1:]
	}
	return text
}

// holds feeds pieces to a new session, and holds all that it answers against the telling of the pieces joined.
func (x telling) holds(t *testing.T, pieces []string) {
	t.Helper()
	s, now := Open(), moment{classes: 3}
	w, came := s.World(), 0
	is := func(what string, got, want string) {
		t.Helper()
		if got != want || s.Lines() != now.lines || s.World() != w || w.Len() != now.classes {
			t.Fatalf("%s of %s answered %s behind %d bytes (%d lines, %d classes), wanted %s (%d, %d)", what, show(strings.Join(pieces, "|")), show(got), came, s.Lines(), w.Len(), show(want), now.lines, now.classes)
		}
	}
	is("Open", "", "")
	for _, piece := range pieces {
		got := s.Feed(piece)
		came += len(piece)
		is("Feed", got, x.due(came, &now))
	}
	got := s.End()
	now = x.end
	is("End", got, x.end.text)
	for _, piece := range []string{"chain Object\n", "", "end\n", example("q/Late"), "define\n", "x"} {
		is("Feed behind the end", s.Feed(piece), "")
		is("End behind the end", s.End(), "")
	}
}
