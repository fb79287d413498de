package sample

import (
	"slices"

	"portcullis/api"
	"portcullis/lower"
	"portcullis/machine"
	"portcullis/parse"
)

// Lowered: the code of a text, which must have one; its hatches are h0 to h2.
func Lowered(text string) api.Module {
	p, at, e := parse.Program(text)
	if e != api.OK {
		panic(e.Error() + " at " + text[min(at, len(text)):])
	}
	m, e := lower.Lower(p, []string{"h0", "h1", "h2"})
	if e != api.OK {
		panic(e.Error() + " of " + text)
	}
	return m
}

// Begun: a machine of code that can be run, with at most three hatches.
func Begun(m api.Module) *machine.Machine {
	x, e := machine.New(m, []int{3, 0, -1, 2, 1, 5, 4, 7}[:len(m.Inputs)], []int{2, 1, 0}[:len(m.Hatches)])
	if e != api.OK {
		panic(e.Error())
	}
	return x
}

// Maker: who made, and where, the object that a word of a machine's arenas belongs to; the thread -1, if it belongs to none.
func Maker(s api.State, addr int) api.Site {
	for thread, objects := range s.Objects {
		for _, o := range objects {
			if first := 1 + thread*api.Arena + o.At; addr >= first && addr < first+o.Size {
				return api.Site{Thread: thread, Func: o.Func, Op: o.Op}
			}
		}
	}
	return api.Site{Thread: -1}
}

// Orders tells each row of picks by which two threads have so many ticks. A row is written over once the next one is told.
func Orders(first, second int, each func(picks []int)) {
	var more func(picks []int, a, b int)
	more = func(picks []int, a, b int) {
		if a+b == 0 {
			each(picks)
		}
		if a > 0 {
			more(append(picks, 0), a-1, b)
		}
		if b > 0 {
			more(append(picks, 1), a, b-1)
		}
	}
	more(nil, first, second)
}

// Copied: the same state in memory of its own.
func Copied(s api.State) api.State {
	s.Threads, s.Globals = eachOf(s.Threads, copiedThread), slices.Clone(s.Globals)
	s.Arenas, s.Objects = eachOf(s.Arenas, slices.Clone), eachOf(s.Objects, slices.Clone)
	s.Holders, s.Queues, s.Events = slices.Clone(s.Holders), eachOf(s.Queues, slices.Clone), slices.Clone(s.Events)
	return s
}

func copiedThread(t api.Thread) api.Thread {
	t.Frames = eachOf(t.Frames, func(f api.Frame) api.Frame {
		f.Regs = slices.Clone(f.Regs)
		return f
	})
	return t
}

// eachOf: a list of copies.
func eachOf[T any](list []T, copied func(T) T) []T {
	var all []T
	for _, one := range list {
		all = append(all, copied(one))
	}
	return all
}
