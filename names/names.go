// Package names is layer 1: names of classes and of methods, and packages. See shared/doc/01-names.md.
package names

import (
	"slices"
	"strings"

	"arbiter/api"
)

const (
	separator   = "/"
	constructor = "<init>"
)

// Valid: may it be the name of a class?
func Valid(name string) bool {
	// The length comes first, so that a huge text isn't cut in vain.
	if len(name) > api.MaxName {
		return false
	}
	for _, part := range Parts(name) {
		if !isPart(part) {
			return false
		}
	}
	return true
}

// Member: may it be the name of a method?
func Member(name string) bool {
	return name == constructor || len(name) <= api.MaxName && isPart(name)
}

// Package: what stands ahead of the last /.
func Package(name string) string {
	return name[:max(lastSeparator(name), 0)]
}

// Simple: what stands behind the last /.
func Simple(name string) string {
	return name[lastSeparator(name)+1:]
}

// Parts: the name, cut at each /.
func Parts(name string) []string {
	var parts []string
	for rest, more := name, true; more; {
		var part string
		part, rest, more = strings.Cut(rest, separator)
		parts = append(parts, part)
	}
	return parts
}

// Join: the name that the parts make.
func Join(parts []string) (string, api.Errno) {
	if len(parts) == 0 {
		return "", api.ErrForm
	}
	size := len(parts) - 1
	for _, part := range parts {
		// The size is held against the limit at each part, so that it can't wrap round and no text beyond the limit is made.
		size += len(part)
		if size > api.MaxName || !isPart(part) {
			return "", api.ErrForm
		}
	}
	return strings.Join(parts, separator), api.OK
}

// Compare: -1, 0 or 1: which name comes first, part by part.
func Compare(a, b string) int {
	return slices.Compare(Parts(a), Parts(b))
}

// lastSeparator answers -1, if there is none.
func lastSeparator(name string) int {
	return strings.LastIndex(name, separator)
}

func isPart(text string) bool {
	if text == "" || isDigit(text[0]) {
		return false
	}
	for i := range len(text) {
		if !isLetter(text[i]) && !isDigit(text[i]) {
			return false
		}
	}
	return true
}

// isLetter counts _ and $ as letters: they may stand wherever a letter may.
func isLetter(b byte) bool {
	return 'a' <= b && b <= 'z' || 'A' <= b && b <= 'Z' || b == '_' || b == '$'
}

func isDigit(b byte) bool {
	return '0' <= b && b <= '9'
}
