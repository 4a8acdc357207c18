package driver

import (
	"math"
	"strconv"
	"strings"

	"arbiter/api"
	"arbiter/code"
	"arbiter/engine"
	"arbiter/query"
	"arbiter/shapes"
)

// The words that a script has as they stand.
const (
	defineWord = "define"
	endWord    = "end"
	cacheWord  = "cache"
	runWord    = "run"
	fuelWord   = "fuel"
)

const (
	blank  = " "
	remark = "#"
)

// command does a line that is not within a class.
func (s *Session) command(line string) []string {
	switch {
	case line == "" || strings.HasPrefix(line, remark):
		return nil
	case len(line) > api.MaxLine:
		return failed(api.ErrLarge)
	}
	words := strings.Split(line, blank)
	switch words[0] {
	case defineWord:
		return s.begin(words[1:])
	case cacheWord:
		return s.renew(words[1:])
	case runWord:
		return s.run(words[1:])
	}
	return s.ask(line)
}

// begin has the lines behind it taken into a class.
func (s *Session) begin(words []string) []string {
	if len(words) != 0 {
		return failed(api.ErrText)
	}
	s.class = &strings.Builder{}
	s.next = s.collect
	return nil
}

// collect takes a line into the class that has begun.
func (s *Session) collect(line string) []string {
	write(s.class, []string{line})
	if line != endWord {
		return nil
	}
	text := s.class.String()
	s.class = nil
	s.next = s.command
	return s.define(text)
}

func (s *Session) define(text string) []string {
	c, line, e := shapes.Parse(text)
	if e != api.OK {
		return []string{errorText(e) + " at " + strconv.Itoa(line)}
	}
	id, e := s.World().Define(c)
	if e != api.OK {
		return failed(e)
	}
	return []string{"defined " + strconv.Itoa(id)}
}

// renew has what runs from now on run by a new engine.
func (s *Session) renew(words []string) []string {
	capacities, ok := readNumbers(words)
	if !ok || len(capacities) != 1 {
		return failed(api.ErrText)
	}
	g, e := engine.New(s.linker, capacities[0])
	if e != api.OK {
		return failed(e)
	}
	s.engine = g
	return []string{"cached"}
}

func (s *Session) run(words []string) []string {
	o, ok := readOrder(words)
	if !ok {
		return failed(api.ErrText)
	}
	result, e := s.engine.Run(o.main, o.args, o.fuel)
	if e != api.OK {
		return failed(e)
	}
	return resultLines(result)
}

func (s *Session) ask(line string) []string {
	lines, e := query.Ask(s.linker, line)
	if e != api.OK {
		return failed(e)
	}
	return lines
}

// order is what a line has an engine run.
type order struct {
	main api.Ref
	args []int
	fuel int
}

// readOrder takes the words behind run.
func readOrder(words []string) (order, bool) {
	last := len(words) - 1
	if last < 2 || words[last-1] != fuelWord {
		return order{}, false
	}
	main, e := code.ParseRefText(words[0])
	args, hasArgs := readNumbers(words[1 : last-1])
	fuel, hasFuel := readNumber(words[last])
	return order{main, args, fuel}, e == api.OK && hasArgs && hasFuel
}

func readNumbers(words []string) ([]int, bool) {
	var numbers []int
	for _, word := range words {
		n, ok := readNumber(word)
		if !ok {
			return nil, false
		}
		numbers = append(numbers, n)
	}
	return numbers, true
}

// readNumber takes a number just as it is written by strconv.Itoa. The least int is beyond the numbers' size.
func readNumber(word string) (int, bool) {
	n, err := strconv.Atoi(word)
	return n, err == nil && n != math.MinInt && strconv.Itoa(n) == word
}

// resultLines tell what a run wrote, and how it ended.
func resultLines(r api.Result) []string {
	var lines []string
	for written := range strings.Lines(r.Out) {
		lines = append(lines, "> "+strings.TrimSuffix(written, endOfLine))
	}
	return append(lines, ending(r)+" spent "+strconv.Itoa(r.Spent))
}

func ending(r api.Result) string {
	number := strconv.Itoa(r.Value.N)
	switch {
	case r.Thrown != api.OK:
		return "thrown " + strconv.Itoa(int(r.Thrown))
	case !r.Has:
		return "returned"
	case r.Value.Ref:
		return "returned ref " + number
	}
	return "returned " + number
}

// failed is an answer of an error alone.
func failed(e api.Errno) []string {
	return []string{errorText(e)}
}

func errorText(e api.Errno) string {
	return "error " + strconv.Itoa(int(e))
}
