package order

import (
	"iter"

	"portcullis/api"
)

// stop is an operation that takes a lock or gives one back, and what a thread holds that comes to it: for sure, and perhaps.
type stop struct {
	api.Op
	must, may int
}

// stops: wherever threads come to an operation that is about a lock.
func stops(m api.Module, h api.Held) iter.Seq[stop] {
	return func(yield func(stop) bool) {
		for thread, funcs := range h.Must {
			for fn, musts := range funcs {
				for op, must := range musts {
					s := stop{m.Funcs[fn].Code[op], must, h.May[thread][fn][op]}
					if s.met() && !yield(s) {
						return
					}
				}
			}
		}
	}
}

// met: is it about a lock, and does the thread come to it?
func (s stop) met() bool {
	return s.must >= 0 && (s.Kind == api.OLock || s.Kind == api.OUnlock)
}

// wrong: what is wrong about it, given to which locks each lock leads.
func (s stop) wrong(leads [api.MaxLocks]int) api.Errno {
	switch {
	case s.Kind == api.OUnlock && !has(s.must, s.A):
		return api.ErrHeld
	case s.Kind == api.OLock && s.may&leads[s.A] != 0:
		return api.ErrCycle
	}
	return api.OK
}

// has: is the lock one of a set, which has a bit for each?
func has(set, lock int) bool { return set>>lock&1 == 1 }
