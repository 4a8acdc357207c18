package report

import (
	"iter"
	"strings"

	"arbiter/api"
	"arbiter/hier"
	"arbiter/shapes"
)

// endOfClass is the line with which the text of a class ends.
const endOfClass = "end" + lineEnd

// classTexts cuts a text behind each line that ends a class, and answers each piece with the number of its first line. Where that line lacks its byte 10, what is left is the same piece.
func classTexts(s string) iter.Seq2[int, string] {
	return func(yield func(first int, text string) bool) {
		first, from := 1, 0
		number, at := 1, 0
		for line := range strings.SplitAfterSeq(s, lineEnd) {
			number++
			at += len(line)
			if line == endOfClass {
				if !yield(first, s[from:at]) {
					return
				}
				first, from = number, at
			}
		}
		if from < len(s) {
			yield(first, s[from:])
		}
	}
}

// arrive defines the class that a text writes; with an error, the line of the text at fault: its first, if no line is.
func arrive(w *hier.World, text string) (line int, e api.Errno) {
	// What is read lies in the text's memory, and the world keeps it: so it is read in memory of its own.
	c, line, e := shapes.Parse(strings.Clone(text))
	if e == api.OK {
		_, e = w.Define(c)
	}
	return max(line, 1), e
}
