package site

import (
	"arbiter/api"
	"arbiter/arrays"
	"arbiter/cache"
)

// outcome is what a receiver runs, or the error.
type outcome struct {
	method api.MethodID
	err    api.Errno
}

func refused(err api.Errno) outcome {
	return outcome{err: err}
}

// number tells an outcome as one that a cache keeps: below 0, if it is an error.
func (o outcome) number() int {
	if o.err != api.OK {
		return -int(o.err)
	}
	return o.method.Class*api.MaxMethods + o.method.Index
}

func outcomeOf(number int) outcome {
	if number < 0 {
		return refused(api.Errno(-number))
	}
	return outcome{method: api.MethodID{Class: number / api.MaxMethods, Index: number % api.MaxMethods}}
}

// memory is a cache from the class of a receiver to its outcome, which no class that arrives can turn: so nothing is ever cleared. The zero memory keeps nothing and reads nothing.
type memory struct {
	*cache.Cache
	words int
}

// wordsOf is the most words that one call reads of a cache: the keys of one set, and a value.
func wordsOf(capacity int) int {
	if capacity == 0 {
		return 0
	}
	return min(capacity, 2) + 1
}

// answer goes by the steps of the definition, in their order.
func (s *Site) answer(recv api.Type, known memory) outcome {
	r, err := s.holder(recv)
	if err != api.OK {
		return refused(err)
	}
	t, err := s.linked()
	switch {
	case err != api.OK:
		return refused(err)
	case s.kind == api.StaticInv:
		return t.runs
	case recv.Dims > 0:
		// All array types have one holder, but not one outcome.
		known = memory{}
	}
	return s.recall(t, recv, r, known)
}

// holder answers the class of a receiver, if there may be an object of its type.
func (s *Site) holder(recv api.Type) (int, api.Errno) {
	if s.kind == api.StaticInv {
		return 0, api.OK
	}
	w := s.linker.World()
	// Of the loaded types int alone has no holder, and is refused there.
	r, err := arrays.Holder(w, recv)
	switch {
	case err != api.OK:
		return 0, err
	case w.IsIface(r):
		return 0, api.ErrArg
	}
	return r, api.OK
}

// recall looks up what the memory does not know.
func (s *Site) recall(t *target, recv api.Type, r int, known memory) outcome {
	reads := known.words
	number, there := known.Get(r)
	runs := outcomeOf(number)
	if !there {
		var more int
		runs, more = s.lookUp(t, recv, r)
		reads += more
		known.Put(r, runs.number())
	}
	s.reads.Add(int64(reads))
	return runs
}

// lookUp answers what a receiver of the class r runs, and how many words of tables and displays are read for it. No look fails: both types are loaded, and a class that is below has the slot or the entry.
func (s *Site) lookUp(t *target, recv api.Type, r int) (runs outcome, reads int) {
	below, reads, _ := s.linker.Below(recv, t.named)
	if !below {
		return refused(api.Incompatible), reads
	}
	switch t.way {
	case bySlot:
		m, _ := s.linker.Slot(r, t.slot)
		return s.unlessAbstract(m), reads + 1
	case byEntry:
		entry, more, _ := s.linker.Entry(r, t.method)
		if s.kind == api.Virtual {
			return outcome{entry.Virtual, entry.VirtualErr}, reads + more
		}
		// The interfaces up to the method's own stand ahead of the one that is named, so Below has read them: the entry is the only new word.
		return outcome{entry.Method, entry.Err}, reads + 1
	}
	return t.runs, reads
}

// unlessAbstract answers a method of a slot, if there is something of it to run. Entries have that error already.
func (s *Site) unlessAbstract(m api.MethodID) outcome {
	method, _ := s.linker.World().Method(m)
	if method.Flags&api.AbstractFl != 0 {
		return refused(api.Abstract)
	}
	return outcome{method: m}
}
