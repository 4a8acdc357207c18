package query

import (
	"strconv"
	"strings"

	"arbiter/api"
	"arbiter/arrays"
	"arbiter/choose"
	"arbiter/override"
	"arbiter/resolve"
)

// answer takes questions alone that read took.
func (a asker) answer(q question) []string {
	w := a.World()
	switch q.command {
	case selectWord:
		return []string{a.methodOr(choose.Call(w, q.class, q.kind, q.ref, q.receiver))}
	case staticWord:
		return []string{a.methodOr(choose.Call(w, q.class, api.StaticInv, q.ref, api.Type{}))}
	case resolveWord:
		return []string{a.methodOr(resolve.Method(w, q.class, q.ref))}
	case belowWord:
		return []string{yesOrNo(arrays.Sub(w, q.firstType, q.secondType))}
	case overridesWord:
		return []string{yesOrNo(override.Overrides(w, q.firstMethod, q.secondMethod))}
	case vtableWord:
		return a.vtable(q.class)
	case itableWord:
		return a.itable(q.class)
	case displayWord:
		return a.display(q.class)
	case chainWord:
		return a.chain(q.class)
	case closureWord:
		return a.closure(q.class)
	}
	return a.methods(q.class)
}

func (a asker) vtable(id int) []string {
	if a.World().IsIface(id) {
		return noTable()
	}
	var lines []string
	tables, _ := a.Tables(id)
	for place, s := range tables.Slots {
		lines = append(lines, join(strconv.Itoa(place), a.method(s.Root), a.method(s.Method)))
	}
	return lines
}

func (a asker) itable(id int) []string {
	if a.World().IsIface(id) {
		return noTable()
	}
	var lines []string
	tables, _ := a.Tables(id)
	for _, e := range tables.Entries {
		lines = append(lines, join(a.method(e.Root), a.methodOr(e.Method, e.Err), a.methodOr(e.Virtual, e.VirtualErr)))
	}
	return lines
}

func (a asker) display(id int) []string {
	tables, _ := a.Tables(id)
	shown := tables.Display
	return []string{
		a.row("primary", shown.Primary),
		a.row("deep", shown.Deep),
		a.row("secondary", shown.Secondary),
	}
}

func (a asker) chain(id int) []string {
	ids, _ := a.World().Chain(id)
	return a.classes(ids)
}

func (a asker) closure(id int) []string {
	ids, _ := a.World().Closure(id)
	return a.classes(ids)
}

func (a asker) methods(id int) []string {
	var lines []string
	c, _ := a.World().Class(id)
	for index := range c.Methods {
		lines = append(lines, a.method(api.MethodID{Class: id, Index: index}))
	}
	return lines
}

// classes answers the names of classes that are there.
func (a asker) classes(ids []int) []string {
	var names []string
	for _, id := range ids {
		c, _ := a.World().Class(id)
		names = append(names, c.Name)
	}
	return names
}

// row is a line of classes, behind a word.
func (a asker) row(word string, ids []int) string {
	return join(append([]string{word}, a.classes(ids)...)...)
}

// method writes a method that is there.
func (a asker) method(m api.MethodID) string {
	text, _ := Name(a.World(), m)
	return text
}

// methodOr writes a method, or the error that stands beside it.
func (a asker) methodOr(m api.MethodID, e api.Errno) string {
	if e != api.OK {
		return fault(e).Error()
	}
	return a.method(m)
}

func yesOrNo(yes bool, e api.Errno) string {
	switch {
	case e != api.OK:
		return fault(e).Error()
	case yes:
		return "yes"
	}
	return "no"
}

// noTable is what an interface has for a table of its own.
func noTable() []string {
	return []string{fault(api.Incompatible).Error()}
}

func join(pieces ...string) string {
	return strings.Join(pieces, blank)
}
