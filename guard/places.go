package guard

import "portcullis/api"

// The kinds of places.
const (
	aGlobal  = iota + 1 // a global word
	aWord               // a word of a site's objects
	elements            // the elements of a site's slices
)

// places are those that are touched, with what is known of them so far.
type places map[api.Place]*api.Guarded

// touched: all places that the threads touch at the operations to which they come.
func touched(m api.Module, h api.Held, p api.Points) places {
	all := places{}
	for thread, funcs := range h.Must {
		for fn, musts := range funcs {
			sites := p.Regs[thread][fn]
			for op, must := range musts {
				if must < 0 {
					continue
				}
				o := m.Funcs[fn].Code[op]
				each(o, sites, func(at api.Place) { all.touch(at, o, thread, must) })
			}
		}
	}
	return all
}

// each tells the places that an operation touches, given the sites of each register's objects.
func each(o api.Op, sites [][]int, tell func(at api.Place)) {
	ofSites := func(kind, register, word int) {
		for _, site := range sites[register] {
			tell(api.Place{Kind: kind, A: site, B: word})
		}
	}
	switch o.Kind {
	case api.OLoad:
		tell(api.Place{Kind: aGlobal, A: o.B})
	case api.OStore:
		tell(api.Place{Kind: aGlobal, A: o.A})
	case api.OGet:
		ofSites(aWord, o.B, o.C)
	case api.OPut:
		ofSites(aWord, o.A, o.B)
	case api.OIndex:
		ofSites(elements, o.B, 0)
	case api.OElem:
		ofSites(elements, o.A, 0)
	}
}

// touch: a thread touches a place by an operation, where it holds these locks for sure.
func (all places) touch(at api.Place, o api.Op, thread, must int) {
	g, met := all[at]
	if !met {
		g = &api.Guarded{Place: at, Locks: must, At: o.At}
		all[at] = g
	}
	g.Threads |= 1 << thread
	g.Locks &= must
	g.Writes = g.Writes || writes(o.Kind)
	g.At = min(g.At, o.At)
}

// writes: does an operation of this kind write what it touches?
func writes(kind int) bool {
	return kind == api.OStore || kind == api.OPut || kind == api.OElem
}
