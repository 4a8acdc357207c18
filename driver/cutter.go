package driver

import (
	"iter"
	"strings"
)

// endOfLine is the byte behind which a script is cut.
const endOfLine = "\n"

// cutter cuts what comes in pieces into lines.
type cutter struct {
	// rest is what has come behind the last byte 10.
	rest []byte
	came int
}

// cut answers the lines whose byte 10 comes with the piece, without that byte; what stands behind the last one waits. A piece comes as far as it is ranged over.
func (c *cutter) cut(piece string) iter.Seq[string] {
	return func(yield func(string) bool) {
		for part := range strings.Lines(piece) {
			c.came += len(part)
			head, isWhole := strings.CutSuffix(part, endOfLine)
			c.rest = append(c.rest, head...)
			if isWhole && !yield(c.take()) {
				return
			}
		}
	}
}

// waits tells whether a byte has come behind the last byte 10.
func (c *cutter) waits() bool {
	return len(c.rest) > 0
}

// take answers what waits, in memory of its own, and nothing waits any more.
func (c *cutter) take() string {
	line := string(c.rest)
	c.rest = c.rest[:0]
	return line
}
