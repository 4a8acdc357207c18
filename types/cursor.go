package types

import (
	"strings"

	"arbiter/api"
	"arbiter/names"
)

const (
	arrayMark = "["
	intMark   = "I"
	classMark = "L"
	classEnd  = ";"
	argsMark  = "("
	argsEnd   = ")"
	voidMark  = "V"
)

// source is a text of any bytes.
type source struct {
	text string
}

// from answers what stands from a place on.
func (s source) from(place int) string {
	return s.text[place:]
}

// cursor reads a source from its beginning on. It looks at the form alone: whoever reads by it holds what was read against the limits, since a text without the form is refused ahead of one that is too large.
type cursor struct {
	source
	place int
}

func newCursor(text string) *cursor {
	return &cursor{source: source{text}}
}

func (c *cursor) atEnd() bool {
	return c.place == len(c.text)
}

// skip goes over a mark, if it stands next.
func (c *cursor) skip(mark string) bool {
	if !strings.HasPrefix(c.from(c.place), mark) {
		return false
	}
	c.place += len(mark)
	return true
}

func (c *cursor) readDesc() (api.Desc, bool) {
	args, found := c.readArgs()
	if !found {
		return api.Desc{}, false
	}
	if c.skip(voidMark) {
		return api.Desc{Args: args, Void: true}, true
	}
	ret, found := c.readType()
	if !found {
		return api.Desc{}, false
	}
	return api.Desc{Args: args, Ret: ret}, true
}

// readArgs reads the arguments with the marks around them.
func (c *cursor) readArgs() ([]api.Type, bool) {
	if !c.skip(argsMark) {
		return nil, false
	}
	var args []api.Type
arguments:
	for {
		// The end is looked for ahead of a type, since a type that is broken off has moved the cursor.
		switch {
		case c.skip(argsEnd):
			break arguments
		default:
			arg, found := c.readType()
			if !found {
				return nil, false
			}
			args = append(args, arg)
		}
	}
	return args, true
}

func (c *cursor) readType() (api.Type, bool) {
	dims := 0
	for c.skip(arrayMark) {
		dims++
	}
	if c.skip(intMark) {
		return api.Type{Dims: dims}, true
	}
	if !c.skip(classMark) {
		return api.Type{}, false
	}
	name, found := c.readName()
	if !found {
		return api.Type{}, false
	}
	return api.Type{Dims: dims, Name: name}, true
}

// readName reads a valid name and the mark that ends it.
func (c *cursor) readName() (string, bool) {
	name, _, found := strings.Cut(c.from(c.place), classEnd)
	if !found || !names.Valid(name) {
		return "", false
	}
	c.place += len(name) + len(classEnd)
	return name, true
}
