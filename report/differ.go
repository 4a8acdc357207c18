package report

import (
	"arbiter/api"
	"arbiter/link"
	"arbiter/site"
)

// capacity is that of the caches of all sites that are asked.
const capacity = 1

// side is one of two worlds that are held against each other. Its classes are copied once, since every answer is told by their names.
type side struct {
	linker  *link.Linker
	classes []api.Class
}

// answer is what a site answers, told without numbers, which two worlds may give in two ways. Beside an error there are no texts: so answers are compared as values.
type answer struct {
	err               api.Errno
	class, name, desc string
}

// pair is the numbers that a class of one name has in two worlds.
type pair struct{ one, other int }

// pairing is two worlds, and what both have by the same names.
type pairing struct {
	one, other side
	callers    []pair
	receivers  []api.Type
}

func newSide(l *link.Linker) side {
	return side{linker: l, classes: classesOf(l.World())}
}

func pairUp(a, b *link.Linker) pairing {
	p := pairing{one: newSide(a), other: newSide(b)}
	for id, c := range p.one.classes {
		twin, err := b.World().ByName(c.Name)
		if err != api.OK {
			continue
		}
		p.callers = append(p.callers, pair{id, twin})
		if !a.World().IsIface(id) && !b.World().IsIface(twin) {
			p.receivers = append(p.receivers, api.Type{Name: c.Name})
		}
	}
	return p
}

// ask asks both worlds all questions about a sound reference, and has each two answers held against each other.
func (p pairing) ask(kind int, ref api.Ref, hold func(one, other answer)) {
	receivers := p.receivers
	if kind == api.StaticInv {
		// No receiver is looked at: so one of any type stands for all.
		receivers = []api.Type{{}}
	}
	for _, d := range p.callers {
		one, other := p.one.site(d.one, kind, ref), p.other.site(d.other, kind, ref)
		for _, recv := range receivers {
			hold(p.one.call(one, recv), p.other.call(other, recv))
		}
	}
}

func (s side) site(d, kind int, ref api.Ref) *site.Site {
	// Nothing is refused here: the class is there, and the rest has been looked at.
	here, _ := site.New(s.linker, d, kind, ref, capacity)
	return here
}

func (s side) call(here *site.Site, recv api.Type) answer {
	m, err := here.Call(recv)
	if err != api.OK {
		return answer{err: err}
	}
	c := s.classes[m.Class]
	method := c.Methods[m.Index]
	return answer{class: c.Name, name: method.Name, desc: method.Desc}
}
