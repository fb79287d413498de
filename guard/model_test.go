package guard_test

import (
	"cmp"
	"slices"
	"testing"

	"portcullis/api"
	"portcullis/code"
	"portcullis/held"
	"portcullis/points"
)

// touch is an operation to which a thread comes, and that touches a place.
type touch struct {
	thread, must int
	o            api.Op
}

// model asks of each place there could be which operations touch it.
type model struct {
	code api.Module
	held api.Held
	pts  api.Points
}

func modelOf(t *testing.T, m api.Module) model {
	t.Helper()
	h, e := held.Find(m)
	p, f := points.Find(m)
	if e != api.OK || f != api.OK {
		t.Fatal(e, f)
	}
	return model{m, h, p}
}

// names: does an operation of a thread's function touch the place?
func (x model) names(at api.Place, thread, fn int, o api.Op) bool {
	may := func(register int) bool { return slices.Contains(x.pts.Regs[thread][fn][register], at.A) }
	switch at.Kind {
	case 1:
		return o.Kind == api.OLoad && o.B == at.A || o.Kind == api.OStore && o.A == at.A
	case 2:
		return o.Kind == api.OGet && o.C == at.B && may(o.B) || o.Kind == api.OPut && o.B == at.B && may(o.A)
	}
	return o.Kind == api.OIndex && may(o.B) || o.Kind == api.OElem && may(o.A)
}

// touches: all that touch the place.
func (x model) touches(at api.Place) []touch {
	var list []touch
	for thread := range x.code.Threads {
		for _, fn := range x.pts.Reach[thread] {
			for op, o := range x.code.Funcs[fn].Code {
				if must := x.held.Must[thread][fn][op]; must != -1 && x.names(at, thread, fn, o) {
					list = append(list, touch{thread, must, o})
				}
			}
		}
	}
	return list
}

// guarded: what is known of a place from those that touch it.
func (x model) guarded(at api.Place, list []touch) api.Guarded {
	g := api.Guarded{Place: at}
	some := func(is func(touch) bool) bool { return slices.ContainsFunc(list, is) }
	for thread := range x.code.Threads {
		if some(func(one touch) bool { return one.thread == thread }) {
			g.Threads += 1 << thread
		}
	}
	for lock := range x.code.Locks {
		if !some(func(one touch) bool { return one.must>>lock&1 == 0 }) {
			g.Locks += 1 << lock
		}
	}
	g.Writes = some(func(one touch) bool {
		return slices.Contains([]int{api.OStore, api.OPut, api.OElem}, one.o.Kind)
	})
	least := func(a, b touch) int { return cmp.Compare(a.o.At, b.o.At) }
	g.At = slices.MinFunc(list, least).o.At
	return g
}

// find: all places that are touched.
func (x model) find() []api.Guarded {
	var list []api.Guarded
	add := func(at api.Place) {
		if touches := x.touches(at); len(touches) > 0 {
			list = append(list, x.guarded(at, touches))
		}
	}
	for word := range code.Words(x.code) {
		add(api.Place{Kind: 1, A: word})
	}
	for site := range x.pts.Sites {
		for word := range 16 {
			add(api.Place{Kind: 2, A: site, B: word})
		}
	}
	for site := range x.pts.Sites {
		add(api.Place{Kind: 3, A: site})
	}
	return list
}

// check: what isn't guarded, by one global word's name or "", as the chapter tells it.
func (x model) check() []api.Diag {
	var names []string
	for _, g := range x.code.Globals {
		names = append(names, slices.Repeat([]string{g.Name}, g.Size)...)
	}
	var list []api.Diag
	for _, g := range x.find() {
		threads := 0
		for thread := range 4 {
			threads += g.Threads >> thread & 1
		}
		if threads < 2 || !g.Writes || g.Locks > 0 {
			continue
		}
		wrong := api.Diag{At: g.At, Code: api.ErrRace}
		if g.Place.Kind == 1 {
			wrong.Name = names[g.Place.A]
		}
		if !slices.Contains(list, wrong) {
			list = append(list, wrong)
		}
	}
	slices.SortFunc(list, func(a, b api.Diag) int { return cmp.Or(cmp.Compare(a.At, b.At), cmp.Compare(a.Name, b.Name)) })
	return list
}
