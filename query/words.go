package query

import (
	"slices"
	"strconv"

	"arbiter/api"
	"arbiter/code"
	"arbiter/link"
	"arbiter/names"
	"arbiter/types"
)

// The commands, which are the first words of lines.
const (
	selectWord    = "select"
	staticWord    = "static"
	resolveWord   = "resolve"
	belowWord     = "below"
	overridesWord = "overrides"
	vtableWord    = "vtable"
	itableWord    = "itable"
	displayWord   = "display"
	chainWord     = "chain"
	closureWord   = "closure"
	methodsWord   = "methods"
)

// The other words that a line has as they stand.
const (
	fromWord      = "from"
	virtualWord   = "virtual"
	interfaceWord = "interface"
	specialWord   = "special"
)

// part is what a word behind the command tells.
type part int

const (
	kindPart part = iota
	refPart
	receiverPart
	fromPart
	classPart
	firstTypePart
	secondTypePart
	firstMethodPart
	secondMethodPart
)

// asker answers questions about its linker's world.
type asker struct {
	*link.Linker
}

// question is what the words of a line tell, as far as its command has them.
type question struct {
	command                   string
	kind                      int
	ref                       api.Ref
	receiver                  api.Type
	class                     int
	firstType, secondType     api.Type
	firstMethod, secondMethod api.MethodID
}

// fault is an error's number as an error, and its text is how an answer writes it.
type fault api.Errno

func (f fault) Error() string { return "error " + strconv.Itoa(int(f)) }

// wordError says at which word a line stopped being a question.
type wordError struct {
	word  string
	cause error
}

func (e wordError) Error() string { return strconv.Quote(e.word) + ": " + e.cause.Error() }

func (e wordError) Unwrap() error { return e.cause }

// read takes a line's pieces, of which there is one at least. It asks the linker for no tables, so that a line that is refused leaves no trace.
func (a asker) read(words []string) (question, error) {
	if slices.Contains(words, "") {
		return question{}, wordError{"", fault(api.ErrText)}
	}
	q := question{command: words[0]}
	parts, err := partsOf(q.command)
	if err != nil {
		return question{}, wordError{q.command, err}
	}
	if len(words) != 1+len(parts) {
		return question{}, fault(api.ErrArg)
	}
	for at, word := range words[1:] {
		if err := a.take(&q, parts[at], word); err != nil {
			return question{}, wordError{word, err}
		}
	}
	return q, nil
}

// partsOf answers what stands behind a command.
func partsOf(command string) ([]part, error) {
	switch command {
	case selectWord:
		return []part{kindPart, refPart, receiverPart, fromPart, classPart}, nil
	case staticWord, resolveWord:
		return []part{refPart, fromPart, classPart}, nil
	case belowWord:
		return []part{firstTypePart, secondTypePart}, nil
	case overridesWord:
		return []part{firstMethodPart, secondMethodPart}, nil
	case vtableWord, itableWord, displayWord, chainWord, closureWord, methodsWord:
		return []part{classPart}, nil
	}
	return nil, fault(api.ErrWord)
}

// take lays down what a word tells.
func (a asker) take(q *question, p part, word string) (err error) {
	switch p {
	case kindPart:
		q.kind, err = readKind(word)
	case refPart:
		q.ref, err = readText(word, code.ParseRefText)
	case receiverPart:
		q.receiver, err = readText(word, types.ParseRef)
	case fromPart:
		err = readFrom(word)
	case classPart:
		q.class, err = a.readClass(word)
	case firstTypePart:
		q.firstType, err = readText(word, types.Parse)
	case secondTypePart:
		q.secondType, err = readText(word, types.Parse)
	case firstMethodPart:
		q.firstMethod, err = a.readMethod(word)
	case secondMethodPart:
		q.secondMethod, err = a.readMethod(word)
	}
	return err
}

func readKind(word string) (int, error) {
	switch word {
	case virtualWord:
		return api.Virtual, nil
	case interfaceWord:
		return api.Iface, nil
	case specialWord:
		return api.Special, nil
	}
	return 0, fault(api.ErrText)
}

func readFrom(word string) error {
	if word != fromWord {
		return fault(api.ErrText)
	}
	return nil
}

// readText has one error alone, whatever is wrong with the text.
func readText[T any](word string, parse func(string) (T, api.Errno)) (T, error) {
	told, e := parse(word)
	if e != api.OK {
		return told, fault(api.ErrText)
	}
	return told, nil
}

func (a asker) readClass(word string) (int, error) {
	if !names.Valid(word) {
		return 0, fault(api.ErrText)
	}
	id, e := a.World().ByName(word)
	if e != api.OK {
		return 0, fault(api.NoClassDef)
	}
	return id, nil
}

func (a asker) readMethod(word string) (api.MethodID, error) {
	m, e := Find(a.World(), word)
	if e != api.OK {
		return m, fault(e)
	}
	return m, nil
}
