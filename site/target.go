package site

import (
	"sync"

	"arbiter/api"
	"arbiter/choose"
	"arbiter/resolve"
	"arbiter/types"
	"arbiter/vtable"
)

const initName = "<init>"

// The ways from what a reference is resolved to, to what a receiver runs.
const (
	alike   = iota // the same for all receivers
	bySlot         // a slot of the receiver's virtual table
	byEntry        // an entry of the receiver's interface table
)

// target is what a reference is resolved to, with all that neither a receiver nor a class that arrives can turn any more. It is never changed once others may see it.
type target struct {
	method api.MethodID
	misfit bool     // an invocation of the site's kind may not be resolved to such a method
	named  api.Type // what a receiver has to be below
	way    int
	slot   int     // by the way bySlot
	runs   outcome // by the way alike
}

// linked answers what the reference is resolved to, or the error that every receiver meets.
func (s *Site) linked() (*target, api.Errno) {
	if s.isMalformed() {
		return nil, api.Malformed
	}
	t, err := s.resolved()
	switch {
	case err != api.OK:
		return nil, err
	case t.misfit:
		return nil, api.Incompatible
	}
	return t, api.OK
}

func (s *Site) isMalformed() bool {
	switch s.kind {
	case api.Virtual:
		return s.ref.Iface || s.ref.Name == initName
	case api.Iface:
		return !s.ref.Iface || s.ref.Name == initName
	case api.StaticInv:
		return s.ref.Name == initName
	}
	return false
}

// resolved resolves the reference, unless that is done. An error is not kept: the class that was not there may arrive.
func (s *Site) resolved() (*target, api.Errno) {
	if t := s.target.Load(); t != nil {
		return t, api.OK
	}
	s.mutex.Lock()
	defer s.mutex.Unlock()
	err := api.OK
	s.once.Do(func() { err = s.resolve() })
	if err != api.OK {
		s.once = sync.Once{}
	}
	return s.target.Load(), err
}

// resolve publishes the target when it is whole, since from then on others go by it.
func (s *Site) resolve() api.Errno {
	w := s.linker.World()
	m, err := resolve.Method(w, s.class, s.ref)
	if err != api.OK {
		return err
	}
	// Both are there: the reference is sound and is resolved.
	named, _ := types.ParseRef(s.ref.Class)
	asked, _ := w.Method(m)
	t := &target{method: m, misfit: isMisfit(s.kind, asked.Flags), named: named}
	s.findWay(t)
	s.target.Store(t)
	return api.OK
}

// isMisfit takes the flags of the method that was resolved.
func isMisfit(kind, flags int) bool {
	switch kind {
	case api.StaticInv:
		return flags&api.Static == 0
	case api.Iface:
		return flags&(api.Static|api.Private) != 0
	}
	return flags&api.Static != 0
}

// findWay does once what need not be done for each receiver.
func (s *Site) findWay(t *target) {
	w := s.linker.World()
	switch s.kind {
	case api.StaticInv:
		t.runs.method = t.method
	case api.Special:
		// What it selects hangs on the site's class and on the reference alone.
		t.runs.method, t.runs.err = choose.Special(w, s.class, s.ref, t.method)
	case api.Iface:
		t.way = byEntry
	case api.Virtual:
		slot, err := vtable.SlotOf(w, t.method)
		switch {
		case err == api.OK:
			t.way, t.slot = bySlot, slot
		case w.IsIface(t.method.Class):
			t.way = byEntry
		default:
			// It is private, so that nothing overrides it.
			t.runs.method = t.method
		}
	}
}
