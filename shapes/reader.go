package shapes

import (
	"errors"
	"strconv"
	"strings"

	"arbiter/api"
	"arbiter/code"
	"arbiter/flags"
)

// maxDigits keeps every number of a text within any int.
const maxDigits = 9

// What is wrong with a line.
var (
	errOrder = errors.New("not one of the lines that may come here")
	errPart  = errors.New("a part of the line is not of the form asked for")
	errOpen  = errors.New("the line is not ended")
)

// lineError says at which line a text stopped being a class's.
type lineError struct {
	line  int
	cause error
}

func (e lineError) Error() string { return "line " + strconv.Itoa(e.line) + ": " + e.cause.Error() }

func (e lineError) Unwrap() error { return e.cause }

// next is what may come next.
type next int

const (
	classNext next = iota
	superNext
	ifaceOrFlagsNext
	loaderNext
	methodOrEndNext
	localsNext
	stackNext
	anyOfCodeNext
	nothingNext
)

// reader holds what the lines so far have told; the method that is being read is the last one.
type reader struct {
	next  next
	class api.Class
}

// Parse: the class that a text writes; with an error, the line at fault.
func Parse(s string) (c api.Class, line int, e api.Errno) {
	if len(s) > api.MaxShape {
		return api.Class{}, 0, api.ErrLarge
	}
	c, err := readLines(s)
	var fault lineError
	if errors.As(err, &fault) {
		return api.Class{}, fault.line, api.ErrText
	}
	if Check(c) != api.OK {
		return api.Class{}, 0, api.ErrForm
	}
	return c, 0, api.OK
}

// readLines goes on till the last line is read and nothing is left: so what is behind it is looked at, and what is missing is a piece that is not ended.
func readLines(text string) (api.Class, error) {
	var r reader
	for number := 1; r.next != nothingNext || text != ""; number++ {
		line, rest, ended := strings.Cut(text, lineEnd)
		err := errOpen
		if ended {
			err = r.take(line)
		}
		if err != nil {
			return api.Class{}, lineError{number, err}
		}
		text = rest
	}
	return r.class, nil
}

// take reads the next line, and turns to what may come behind it.
func (r *reader) take(line string) (err error) {
	switch r.next {
	case classNext:
		r.class.Name, err = readName(line, className)
		r.next = superNext
	case superNext:
		r.class.Super, err = readName(line, superName)
		r.next = ifaceOrFlagsNext
	case ifaceOrFlagsNext:
		err = r.takeIfaceOrFlags(line)
	case loaderNext:
		r.class.Loader, err = readNumber(line, loaderName)
		r.next = methodOrEndNext
	case methodOrEndNext:
		err = r.takeMethodOrEnd(line)
	case localsNext:
		r.method().Locals, err = readNumber(line, localsName)
		r.next = stackNext
	case stackNext:
		r.method().Stack, err = readNumber(line, stackName)
		r.next = anyOfCodeNext
	case anyOfCodeNext:
		err = r.takeCode(line)
	default:
		err = errOrder
	}
	return err
}

func (r *reader) method() *api.Method {
	return &r.class.Methods[len(r.class.Methods)-1]
}

func (r *reader) takeIfaceOrFlags(line string) error {
	if _, err := cutWord(line, ifaceName); err == nil {
		return r.takeIface(line)
	}
	return r.takeFlags(line)
}

func (r *reader) takeIface(line string) error {
	iface, err := readName(line, ifaceName)
	r.class.Ifaces = append(r.class.Ifaces, iface)
	return err
}

func (r *reader) takeFlags(line string) error {
	words, err := cutWord(line, flagsName)
	if err != nil {
		return err
	}
	r.class.Flags, err = readFlags(words, flags.ParseClass)
	r.next = loaderNext
	return err
}

func (r *reader) takeCode(line string) error {
	i, e := code.Parse(line)
	if e != api.OK {
		return r.takeMethodOrEnd(line)
	}
	m := r.method()
	m.Code = append(m.Code, i)
	return nil
}

func (r *reader) takeMethodOrEnd(line string) error {
	if line == endName {
		r.next = nothingNext
		return nil
	}
	m, err := readMethod(line)
	r.class.Methods = append(r.class.Methods, m)
	r.next = localsNext
	return err
}

func readMethod(line string) (api.Method, error) {
	rest, err := cutWord(line, methodName)
	if err != nil {
		return api.Method{}, err
	}
	name, rest := cutPart(rest)
	desc, words := cutPart(rest)
	if name == "" || desc == "" {
		return api.Method{}, errPart
	}
	f, err := readFlags(words, flags.ParseMethod)
	return api.Method{Name: name, Desc: desc, Flags: f}, err
}

// cutWord answers what stands behind a line's first word, with the blank ahead of it: so nothing and nothing behind a blank are two things.
func cutWord(line, word string) (string, error) {
	rest, found := strings.CutPrefix(line, word)
	if !found || rest != "" && !strings.HasPrefix(rest, blank) {
		return "", errOrder
	}
	return rest, nil
}

// cutPart parts what begins with a blank, or is empty, into the part behind this blank and what is left from the next blank on.
func cutPart(rest string) (part, left string) {
	part = strings.TrimPrefix(rest, blank)
	if end := strings.Index(part, blank); end >= 0 {
		return part[:end], part[end:]
	}
	return part, ""
}

func readName(line, word string) (string, error) {
	rest, err := cutWord(line, word)
	if err != nil {
		return "", err
	}
	name, left := cutPart(rest)
	if name == "" || left != "" {
		return "", errPart
	}
	return name, nil
}

func readNumber(line, word string) (int, error) {
	text, err := readName(line, word)
	if err != nil {
		return 0, err
	}
	n, err := strconv.Atoi(text)
	// A text that was read too kindly (+5, -0, 007) is another than its number's.
	if err != nil || n < 0 || len(text) > maxDigits || strconv.Itoa(n) != text {
		return 0, errPart
	}
	return n, nil
}

// readFlags takes nothing at all, or a blank and words; parse takes no words too, which behind a blank may not stand.
func readFlags(rest string, parse func(string) (int, api.Errno)) (int, error) {
	if rest == "" {
		return 0, nil
	}
	words := strings.TrimPrefix(rest, blank)
	f, e := parse(words)
	if words == "" || e != api.OK {
		return 0, errPart
	}
	return f, nil
}
