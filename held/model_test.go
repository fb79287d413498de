package held_test

import "portcullis/api"

// way is an operation to which a thread comes, with one lock, of which alone is asked here, or without it.
type way struct {
	thread, fn, op int
	has            bool
}

// model is all ways of one lock. So the chapter's words are told otherwise: a lock is in a must just if the thread never comes without it, in a may just if it ever comes with it.
type model struct {
	code  api.Module
	lock  int
	ways  map[way]bool
	grown bool
}

func modelOf(m api.Module, lock int) *model {
	x := &model{code: m, lock: lock, ways: map[way]bool{}}
	for x.grown = true; x.grown; {
		x.grown = false
		for thread, fn := range m.Threads {
			x.add(way{thread, fn, 0, false})
		}
		x.each(x.rule)
	}
	return x
}

// each tells all operations of all threads, with the lock and without it, to which one has come.
func (x *model) each(tell func(at way, o api.Op)) {
	for thread := range x.code.Threads {
		for fn, f := range x.code.Funcs {
			for op, o := range f.Code {
				for _, has := range []bool{false, true} {
					if at := (way{thread, fn, op, has}); x.ways[at] {
						tell(at, o)
					}
				}
			}
		}
	}
}

func (x *model) add(at way) {
	if !x.ways[at] {
		x.ways[at], x.grown = true, true
	}
}

// rule: where an operation leads.
func (x *model) rule(at way, o api.Op) {
	next := way{at.thread, at.fn, o.Next, at.has}
	if o.Kind == api.OLock && o.A == x.lock {
		next.has = true
	}
	if o.Kind == api.OUnlock && o.A == x.lock {
		next.has = false
	}
	switch o.Kind {
	case api.OReturn:
	case api.OCall:
		x.add(way{at.thread, o.A, 0, at.has})
		for op, back := range x.code.Funcs[o.A].Code {
			for _, has := range []bool{false, true} {
				if back.Kind == api.OReturn && x.ways[way{at.thread, o.A, op, has}] {
					x.add(way{at.thread, at.fn, o.Next, has})
				}
			}
		}
	case api.OIf:
		x.add(next)
		next.op = o.Else
		x.add(next)
	default:
		x.add(next)
	}
}

// modelHeld: the models' answer, told as told does; which functions a thread calls is taken from what was found.
func modelHeld(m api.Module, found api.Held) string {
	h := api.Held{Must: copied(found.Must), May: copied(found.May)}
	for lock := range max(1, len(m.Locks)) {
		x := modelOf(m, lock)
		for thread := range m.Threads {
			for fn := range m.Funcs {
				for op := range h.Must[thread][fn] {
					with, without := x.ways[way{thread, fn, op, true}], x.ways[way{thread, fn, op, false}]
					must, may := &h.Must[thread][fn][op], &h.May[thread][fn][op]
					switch {
					case !with && !without:
						*must, *may = -1, -1
						continue
					case lock == 0:
						*must, *may = 0, 0
					}
					if with {
						*may |= 1 << lock
					}
					if with && !without {
						*must |= 1 << lock
					}
				}
			}
		}
	}
	return told(h)
}

// copied: the same lists, with numbers that nothing is.
func copied(all [][][]int) [][][]int {
	var threads [][][]int
	for _, funcs := range all {
		var lists [][]int
		for _, ops := range funcs {
			list := make([]int, len(ops))
			for i := range list {
				list[i] = -77
			}
			lists = append(lists, list)
		}
		threads = append(threads, lists)
	}
	return threads
}
