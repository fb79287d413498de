package watch

import (
	"slices"

	"portcullis/api"
)

// noLock stands where a thread waits for no lock.
const noLock = -1

// turn is what a thread does next: an operation, whose kind is 0 if there is none, and the registers that it is done with.
type turn struct {
	op   api.Op
	regs []int
}

// turnOf: the turn of a thread of code that is right.
func turnOf(m api.Module, t api.Thread) turn {
	if t.Fault != 0 || len(t.Frames) == 0 {
		return turn{}
	}
	call := t.Frames[len(t.Frames)-1]
	if !has(m.Funcs, call.Func) || !has(m.Funcs[call.Func].Code, call.Pc) {
		return turn{}
	}
	o := m.Funcs[call.Func].Code[call.Pc]
	missing := func(register int) bool { return !has(call.Regs, register) }
	if slices.ContainsFunc(needed(o), missing) {
		return turn{}
	}
	return turn{o, call.Regs}
}

// has: has a list an element of this number?
func has[T any](list []T, number int) bool { return number >= 0 && number < len(list) }

// needed: the registers that an operation needs. Kinds that touch no word aren't told: nothing is asked of their registers here.
func needed(o api.Op) []int {
	switch o.Kind {
	case api.OLoad:
		return []int{o.A}
	case api.OStore:
		return []int{o.B}
	case api.OGet:
		return []int{o.A, o.B}
	case api.OPut:
		return []int{o.A, o.C}
	case api.OIndex, api.OElem:
		return []int{o.A, o.B, o.C, o.D}
	}
	return nil
}

// place: the place of the word that is touched, and true; else false.
func (t turn) place(m memory) (int, bool) {
	switch o := t.op; o.Kind {
	case api.OLoad:
		return m.global(o.B)
	case api.OStore:
		return m.global(o.A)
	case api.OGet:
		return m.field(t.regs[o.B], o.C)
	case api.OPut:
		return m.field(t.regs[o.A], o.B)
	case api.OIndex:
		return m.element(t.regs[o.B], t.regs[o.C], t.regs[o.D])
	case api.OElem:
		return m.element(t.regs[o.A], t.regs[o.B], t.regs[o.C])
	}
	return 0, false
}

// writes: is the word that is touched written?
func (t turn) writes() bool {
	return t.op.Kind == api.OStore || t.op.Kind == api.OPut || t.op.Kind == api.OElem
}

// lock: the lock that is waited for.
func (t turn) lock() int {
	if t.op.Kind != api.OLock {
		return noLock
	}
	return t.op.A
}
